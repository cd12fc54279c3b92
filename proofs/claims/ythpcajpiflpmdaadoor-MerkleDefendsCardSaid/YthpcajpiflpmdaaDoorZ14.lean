import Derived.Test.YthpcajpiflpmdaaDoorZ1
import Derived.Test.YthpcajpiflpmdaaDoorZ13
/- Layer 10 (merkle): the law MerkleProves, walked. -/
namespace Go.Proofs.YthpcajpiflpmdaaDoor
set_option linter.unusedVariables false
set_option linter.unusedSimpArgs false
open Go.RowKit Go.Shelf

/-- What Check answers at any place that is one. -/
theorem mCheck_in (root h : List UInt8) (i n : Nat) (wy : List (List UInt8)) (b : Option Addr) (m d : Nat) (w : World) (hr : root.length = 32) (hs : Hs w b d wy) (hm : m = wy.length) (hl : h.length = 32) (hi : i < n) (hb : n ≤ 65536) (hmm : m ≤ 1000000) (hcub : Cub w) :
    Calls Tryd.prog 12 #[.agg (hc root), .agg (hc h), .int .i64 (i : Int), .int .i64 (n : Int), .slice b m d] w fun e w' => e = .returned (.bool (decide (climbM wy h i n = some root))) ∧ Fr F0 w w' := by
  have hV : ((climbM wy h i n).getD z32).length = 32 := by
    cases e : climbM wy h i n with
    | none => exact z32_length
    | some v => exact climbM_length wy h v i n hl e
  refine (mCheck_of root h _ i n _ b m d w hr hl hV fun W f => mClimb_in h i n wy b m d W (hs.fr f) hm hl hi hb hmm (hcub.fr f fun e => e)).mono ?_
  rintro e w' ⟨rfl, f⟩
  refine ⟨?_, f⟩
  cases climbM wy h i n with
  | none => simp
  | some v => simp

theorem pv_meas (R k : Nat) (h : k < R) (h2 : R ≤ 1000) : R - (intOf (Value.int .i64 (wrap64 ((k : Int) + 1)))).toNat < R - (intOf (Value.int .i64 (k : Int))).toNat := by
  rw [show wrap64 ((k : Int) + 1) = ((k + 1 : Nat) : Int) by unfold wrap64; omega]
  show R - (((k + 1 : Nat) : Int)).toNat < R - ((k : Int)).toNat
  omega
/-- What the rounds hold. -/
structure PvS (pa pb : Nat) (wy : List (List UInt8)) (T : List UInt8) (W0 wr : World) (A B : List UInt8) (k i n : Nat) : Prop where
  hA : wr.heap[pa]? = some (.cells (hc A) 27 (0, 0))
  hB : wr.heap[pb]? = some (.cells (hc B) 27 (0, 0))
  lA : A.length = 32
  lB : B.length = 32
  ne : A ≠ B
  cA : climbM (wy.drop k) A i n = some T
  cB : climbM (wy.drop k) B i n = some T
  hn : n ≤ 12
  hi : i < n
  fr : Fr F0 W0 wr
theorem PvS.end_ {pa pb : Nat} {wy : List (List UInt8)} {T : List UInt8} {W0 wr : World} {A B : List UInt8} {k i n : Nat} (h : PvS pa pb wy T W0 wr A B k i n) (hk : wy.length ≤ k) : False := by
  have e1 := h.cA
  have e2 := h.cB
  rw [List.drop_eq_nil_of_le hk, climbM] at e1 e2
  split at e1
  · rename_i h1
    rw [if_pos h1] at e2
    exact h.ne (Option.some.inj (e1.trans e2.symm))
  · cases e1
theorem PvS.step {pa pb : Nat} {wy : List (List UInt8)} {T : List UInt8} {W0 wr : World} {A B : List UInt8} {k i n : Nat} (h : PvS pa pb wy T W0 wr A B k i n) (hk : k < wy.length) :
    alone i n = false ∧ climbM (wy.drop (k + 1)) (stpM i A (wy.getD k [])) (i / 2) ((n + 1) / 2) = some T ∧ climbM (wy.drop (k + 1)) (stpM i B (wy.getD k [])) (i / 2) ((n + 1) / 2) = some T := by
  have e1 := h.cA
  have e2 := h.cB
  rw [List.drop_eq_getElem_cons hk] at e1 e2
  have eg : wy.getD k [] = wy[k] := by rw [List.getD_eq_getElem?_getD, List.getElem?_eq_getElem hk]; rfl
  obtain ⟨a1, a2⟩ := climb_step e1
  obtain ⟨b1, b2⟩ := climb_step e2
  rw [eg]
  refine ⟨?_, a1, b1⟩
  cases e : alone i n with
  | false => rfl
  | true => exact absurd ((a2 e).symm.trans (b2 e)) h.ne

set_option maxRecDepth 100000 in
set_option maxHeartbeats 16000000 in
theorem merkleProves_off (l : List (List UInt8)) (a : Option Addr) (c : Nat) (i : Int) (o : List UInt8) (ho : o.length = 32) (w : World) (hs : Hs w a c l) (hcub : Cub w) (hno : l.length = 0 ∨ 12 < l.length) :
    Calls Tryd.prog 6 #[.slice a l.length c, .int .i64 i, .agg (hc o)] w fun e w' => e = .returned (.bool true) ∧ Fr F0 w w' := by
  have HL := Lib.hid (fun W (f : Fr F0 w W) => lives10_any W (hcub.fr f fun e => e))
  have sX := hc_size ho
  have oX := hc_one o
  obtain ⟨m, hm⟩ : ∃ m, m = l.length := ⟨_, rfl⟩
  rw [← hm] at hno ⊢
  have hk : ((m : Int) == 0) = true ∨ (((m : Int) == 0) = false ∧ (12 : Int) < (m : Int)) := by
    rcases hno with h | h
    · exact .inl (by rw [beq_iff_eq]; omega)
    · exact .inr ⟨by rw [beq_eq_false_iff_ne]; omega, by omega⟩
  generalize hc o = X at *
  clear hno hs hcub ho hm
  rcases hk with k1 | ⟨k1, k2⟩
  all_goals
    go_enter Tryd.func6, Tryd.ntmps6
    go_upto_region 1 with fail
    refine wp_new fun W1 N1 => ?_
    have F := N1.fr
    clear N1
    generalize w.heap.size = g5 at *
    go_wp2_with fail
    (with_reducible refine (HL.out _ F).mono ?_); rintro e w2 ⟨rfl, f⟩
    replace F := F.trans' f
    clear f
    go_wp2_with fail
    (with_reducible refine (HL.out _ F).mono ?_); rintro e w3 ⟨rfl, f⟩
    go_wp2
    go_ret
    exact ⟨rfl, F.trans' f⟩

set_option maxRecDepth 100000 in
set_option maxHeartbeats 16000000 in
theorem merkleProves_in (l : List (List UInt8)) (a : Option Addr) (c : Nat) (i : Int) (o : List UInt8) (ho : o.length = 32) (w : World) (hs : Hs w a c l) (hcub : Cub w) (h0 : 0 < l.length) (h12 : l.length ≤ 12) :
    Calls Tryd.prog 6 #[.slice a l.length c, .int .i64 i, .agg (hc o)] w fun e w' => e = .returned (.bool true) ∧ Fr F0 w w' := by
  obtain ⟨m, hm⟩ : ∃ m, m = l.length := ⟨_, rfl⟩
  obtain ⟨u, hu⟩ : ∃ u : Nat, IntKind.u64.wrap i = (u : Int) := ⟨(IntKind.u64.wrap i).toNat, by rw [IntKind.wrap_u64]; omega⟩
  obtain ⟨j, hj⟩ : ∃ j, j = u % m := ⟨_, rfl⟩
  have hjm : j < m := by rw [hj]; exact Nat.mod_lt _ (by omega)
  have hjl : j < l.length := by omega
  have hjw : wrap64 ((u : Int) % (m : Int)) = (j : Int) := by
    rw [show (u : Int) % (m : Int) = (j : Int) by rw [hj]; rfl]
    unfold wrap64
    omega
  obtain ⟨bb, off, rfl, HLl, _⟩ := hs.load j hjl
  have HL := Lib.hid (fun W (f : Fr F0 w W) => lives10_any W (hcub.fr f fun e => e))
  have HPl := Lib.hid (fun W (f : Fr F0 w W) => plain10_any l (some ⟨bb, off, none⟩) l.length c W (hs.fr f) rfl (by omega))
  have HUn := Lib.hid (fun a' c' W (g : Hs W a' c' l) => unlike10_any l a' l.length c' W g rfl (by omega))
  unfold NewHs at HPl
  unfold UnR at HUn
  have HRo := Lib.hid (fun W (f : Fr F0 w W) => mRoot_any l (some ⟨bb, off, none⟩) l.length c W (hs.fr f) rfl h0 (by omega) (hcub.fr f fun e => e))
  have HWa := Lib.hid (fun W (f : Fr F0 w W) => mWay_any l (some ⟨bb, off, none⟩) l.length c j W (hs.fr f) rfl hjl (by omega) (hcub.fr f fun e => e))
  have hYl : (l.getD j []).length = 32 := hs.ok.get hjl
  have hTl := rootM_length l hs.ok h0
  have hR16 : (wayM l j).length ≤ 1000 := by rw [wayM_length]; have := rows_small l.length (by omega); omega
  have hway : unl l → climbM (wayM l j) (l.getD j []) j l.length = some (rootM l) := fun h => climb_way l j hjl h
  rw [← hm] at HPl HUn HRo HWa h0 h12 hway ⊢
  have HCk := Lib.hid (fun W h b d (f : Fr F0 w W) (g : Hs W b d (wayM l j)) (hl : h.length = 32) => mCheck_in (rootM l) h j m (wayM l j) b (wayM l j).length d W hTl g rfl hl hjm (by omega) (by omega) (hcub.fr f fun e => e))
  obtain ⟨lj, hlj⟩ : ∃ x, x = l.getD j [] := ⟨_, rfl⟩
  obtain ⟨T, hT⟩ : ∃ x, x = rootM l := ⟨_, rfl⟩
  obtain ⟨wy, hwy⟩ : ∃ x, x = wayM l j := ⟨_, rfl⟩
  rw [← hlj] at HLl hYl hway
  rw [← hT] at HRo HCk hTl hway
  rw [← hwy] at HWa HCk hway hR16
  obtain ⟨R, hR⟩ : ∃ x, x = wy.length := ⟨_, rfl⟩
  rw [← hR] at HWa HCk hR16
  have heq := fun w => run_equalIn_hashJ w o lj ho hYl
  have sX := hc_size ho
  have oX := hc_one o
  have sY := hc_size hYl
  have oY := hc_one lj
  have sT := hc_size hTl
  have oT := hc_one T
  have k1 : ((m : Int) == 0) = false := by rw [beq_eq_false_iff_ne]; omega
  have k2 : ¬ (12 : Int) < (m : Int) := by omega
  have k3 : IntKind.u64.wrap (m : Int) = (m : Int) := IntWalk.u64_in _ (by omega)
  have k4 : ¬ 12 < m := by omega
  have k5 : ¬ m = 0 := by omega
  have k6 : (j : Int) < (m : Int) := by omega
  have HH := Lib.hid (And.intro ho (And.intro hYl (And.intro hTl (And.intro hR hR16))))
  replace HLl := Lib.hid HLl
  replace hway := Lib.hid hway
  clear hs hcub ho hm h0 h12 hTl hj hjl hYl hlj hT hwy hR hR16
  obtain ⟨X, hX⟩ : ∃ x, x = hc o := ⟨_, rfl⟩
  obtain ⟨Y, hY⟩ : ∃ x, x = hc lj := ⟨_, rfl⟩
  obtain ⟨Z, hZ⟩ : ∃ x, x = hc T := ⟨_, rfl⟩
  rw [← hX] at sX oX heq ⊢
  rw [← hY] at sY oY heq HLl
  rw [← hZ] at sT oT HRo HCk
  replace hX := Lib.hid hX
  replace hY := Lib.hid hY
  replace hZ := Lib.hid hZ
  go_enter Tryd.func6, Tryd.ntmps6
  go_upto_region 1 with fail
  refine wp_new fun W1 N1 => ?_
  have r5 := N1.new
  have F := N1.fr
  clear N1
  generalize w.heap.size = g5 at *
  go_wp2_with fail
  (with_reducible refine (HL.out _ F).mono ?_); rintro e w2 ⟨rfl, f⟩
  replace r5 := keep_fr f r5
  replace F := F.trans' f
  clear f
  go_wp2_with fail
  (with_reducible refine (HPl.out _ F).mono ?_); rintro e w3 ⟨a3, c3, rfl, hs3, f, _⟩
  replace r5 := keep_fr f r5
  replace F := F.trans' f
  clear f
  go_wp2_with fail
  (with_reducible refine (HUn.out a3 c3 _ hs3).mono ?_); rintro e w4 ⟨ub, rfl, hub, f⟩
  replace r5 := keep_fr f r5
  replace F := F.trans' f
  clear f HPl HUn hs3
  cases ub with
  | false =>
    clear HRo HWa HCk
    go_wp2_with fail
    (with_reducible refine (HL.out _ F).mono ?_); rintro e w5 ⟨rfl, f⟩
    go_wp2
    go_ret
    exact ⟨rfl, F.trans' f⟩
  | true =>
    replace hway := Lib.hid (hway.out (hub.1 rfl))
    clear HL hub
    go_wp2_with fail
    (with_reducible refine (HRo.out _ F).mono ?_); rintro e w5 ⟨rfl, f⟩
    replace r5 := keep_fr f r5
    replace F := F.trans' f
    clear f HRo
    go_upto_region 5 with fail
    refine wp_put fun W6 N6 => ?_
    have r7 := N6.new
    replace r5 := N6.old r5
    replace F := F.trans' N6.fr
    clear N6
    generalize w5.heap.size = g7 at *
    go_wp2_with fail
    (with_reducible refine (HWa.out _ F).mono ?_); rintro e W0 ⟨b, d, rfl, hw, f, _⟩
    replace r5 := keep_fr f r5
    replace r7 := keep_fr f r7
    replace F := F.trans' f
    clear f HWa
    have HC1 := Lib.hid (fun W (f : Fr F0 W0 W) => by
      have := HCk.out W lj b d (F.trans' f) (hw.fr f) HH.out.2.1
      rwa [hway.out, decide_eq_true rfl, ← hY.out] at this)
    have HC2 := Lib.hid (fun W (f : Fr F0 W0 W) => by
      have := HCk.out W o b d (F.trans' f) (hw.fr f) HH.out.1
      rwa [← hX.out] at this)
    have HLj := Lib.hid (fun W (f : Fr F0 W0 W) => HLl.out W (F.trans' f))
    have HF := Lib.hid (fun W (f : Fr F0 W0 W) => F.trans' f)
    replace hw := Lib.hid hw
    clear HCk HLl F
    go_upto_region 6 with fail
    refine wp_region_noPanic ?_
    refine wp_region_held_drew (S := (fun w' => (w'.heap[g7]? = some (.cells Z 28 (0, 0)) ∧ w'.heap[g5]? = some (.cells X 28 (0, 0)) ∧ (loadRowAt 28 (.pointer (some ⟨bb, off + j * 32, none⟩))).run Tryd.prog w' = .ok (.agg Y) w') ∧ Fr F0 W0 w')) (by kernel_rfl) ?_ (fun hHeld => ?_)
    · ((try dsimp only) <;> (first | exact ⟨⟨r7, r5, HLj.out _ (Fr.refl F0 W0).drew⟩, (Fr.refl F0 W0).drew⟩ | exact hHeld | exact ⟨⟨keep_fr f5 hHeld.1.1, keep_fr f5 hHeld.1.2.1, HLj.out _ (hHeld.2.trans' f5)⟩, hHeld.2.trans' f5⟩))
    refine rtake 0 ?_
    refine rtake 1 ?_
    refine rtake 2 ?_
    refine rtake 3 ?_
    refine rtake 4 ?_
    refine rtake 5 ?_
    refine rtake 6 ?_
    refine rtake 7 ?_
    refine rtake 8 ?_
    refine rtake 9 ?_
    refine rtake 10 ?_
    refine rtake 11 ?_
    refine rtake 12 ?_
    refine rtake 13 ?_
    refine rtake 14 ?_
    refine rtake 15 ?_
    refine wpAnyH_ready (rs := [16]) (by kernel_rfl) (by simp) ?_
    refine AllReadyH.cons (o := ⟨_, _, _, _, _, _⟩) rfl (fun K hK => ?_) AllReadyH.nil
    go_simp
    ((with_reducible refine (HC1.out _ hHeld.2).mono ?_); rintro e w5 ⟨rfl, f5⟩)
    refine hK.out _ _ ?_ (fun hHeld => ?_)
    · ((try dsimp only) <;> (first | exact ⟨⟨r7, r5, HLj.out _ (Fr.refl F0 W0).drew⟩, (Fr.refl F0 W0).drew⟩ | exact hHeld | exact ⟨⟨keep_fr f5 hHeld.1.1, keep_fr f5 hHeld.1.2.1, HLj.out _ (hHeld.2.trans' f5)⟩, hHeld.2.trans' f5⟩))
    clear hK K
    try (simp only [Act.put, List.setIfInBounds_toArray]; dsimp only [List.set_cons_zero, List.set_cons_succ])
    refine rtake 17 ?_
    refine rtake 18 ?_
    refine wpAnyH_done (by kernel_rfl) ?_ _
    refine NoPanic.normal ?_
    obtain ⟨⟨q7, q5, qj⟩, F6⟩ := hHeld
    clear r5 r7 HC1
    obtain ⟨EQ, hEQ⟩ : ∃ e, e = decide (o = lj) := ⟨_, rfl⟩
    rw [← hEQ] at heq
    cases EQ with
    | true =>
      clear hEQ HC2
      go_upto_region 8 with fail
      refine wp_region_noPanic ?_
      refine wp_region_held_drew (S := (fun w' => (w'.heap[g7]? = some (.cells Z 28 (0, 0)) ∧ w'.heap[g5]? = some (.cells X 28 (0, 0)) ∧ (loadRowAt 28 (.pointer (some ⟨bb, off + j * 32, none⟩))).run Tryd.prog w' = .ok (.agg Y) w') ∧ Fr F0 W0 w')) (by kernel_rfl) ?_ (fun hHeld => ?_)
      · ((try dsimp only) <;> (first | exact ⟨⟨q7, q5, HLj.out _ F6.drew⟩, F6.drew⟩ | exact hHeld))
      refine rtake 0 ?_
      refine rtake 1 ?_
      refine rtake 2 ?_
      refine rtake 3 ?_
      refine rtake 4 ?_
      refine rtake 5 ?_
      refine rtake 6 ?_
      refine rleave 7 ?_
      refine rleave 8 ?_
      refine rleave 9 ?_
      refine rleave 10 ?_
      refine rleave 11 ?_
      refine rleave 12 ?_
      refine rleave 13 ?_
      refine rleave 14 ?_
      refine rtake 15 ?_
      refine wpAnyH_done (by kernel_rfl) ?_ _
      refine NoPanic.normal ?_
      go_wp2
      go_ret
      exact ⟨rfl, HF.out _ hHeld.2⟩
    | false =>
      have hne : lj ≠ o := fun e => of_decide_eq_false hEQ.symm e.symm
      obtain ⟨CB, hCB⟩ : ∃ e, e = decide (climbM wy o j m = some T) := ⟨_, rfl⟩
      rw [← hCB] at HC2
      replace hCB := Lib.hid hCB
      clear hEQ
      go_upto_region 8 with fail
      refine wp_region_noPanic ?_
      refine wp_region_held_drew (S := (fun w' => (w'.heap[g7]? = some (.cells Z 28 (0, 0)) ∧ w'.heap[g5]? = some (.cells X 28 (0, 0)) ∧ (loadRowAt 28 (.pointer (some ⟨bb, off + j * 32, none⟩))).run Tryd.prog w' = .ok (.agg Y) w') ∧ Fr F0 W0 w')) (by kernel_rfl) ?_ (fun hHeld => ?_)
      · ((try dsimp only) <;> (first | exact ⟨⟨q7, q5, HLj.out _ F6.drew⟩, F6.drew⟩ | exact hHeld | exact ⟨⟨keep_fr f5 hHeld.1.1, keep_fr f5 hHeld.1.2.1, HLj.out _ (hHeld.2.trans' f5)⟩, hHeld.2.trans' f5⟩))
      refine rtake 0 ?_
      refine rtake 1 ?_
      refine rtake 2 ?_
      refine rtake 3 ?_
      refine rtake 4 ?_
      refine rtake 5 ?_
      refine rtake 6 ?_
      refine rtake 7 ?_
      refine rtake 8 ?_
      refine rtake 9 ?_
      refine rtake 10 ?_
      refine rtake 11 ?_
      refine rtake 12 ?_
      refine wpAnyH_ready (rs := [13]) (by kernel_rfl) (by simp) ?_
      refine AllReadyH.cons (o := ⟨_, _, _, _, _, _⟩) rfl (fun K hK => ?_) AllReadyH.nil
      go_simp
      ((with_reducible refine (HC2.out _ hHeld.2).mono ?_); rintro e w6 ⟨rfl, f5⟩)
      refine hK.out _ _ ?_ (fun hHeld => ?_)
      · ((try dsimp only) <;> (first | exact ⟨⟨q7, q5, HLj.out _ F6.drew⟩, F6.drew⟩ | exact hHeld | exact ⟨⟨keep_fr f5 hHeld.1.1, keep_fr f5 hHeld.1.2.1, HLj.out _ (hHeld.2.trans' f5)⟩, hHeld.2.trans' f5⟩))
      clear hK K
      try (simp only [Act.put, List.setIfInBounds_toArray]; dsimp only [List.set_cons_zero, List.set_cons_succ])
      refine rtake 14 ?_
      refine rtake 15 ?_
      refine wpAnyH_done (by kernel_rfl) ?_ _
      refine NoPanic.normal ?_
      cases CB with
      | false =>
        clear hCB HC2
        go_wp2
        go_ret
        exact ⟨rfl, HF.out _ hHeld.2⟩
      | true =>
        have hco := Lib.hid (of_decide_eq_true hCB.out.symm)
        obtain ⟨⟨t7, t5, tj⟩, F8⟩ := hHeld
        clear hCB HC2 q7 q5 qj F6 t7 tj f5 heq
        go_upto_region 10 with fail
        refine mp10 W0 w6 X Y j m c bb off g5 sX sY oX oY hjm k6 HLj t5 F8 (Lib.hid ?_)
        rename_i w7
        rintro ⟨⟨pa, pb, rfl, rfl, rfl, ⟨hab, hpa, hpb⟩, rA, rB⟩, F9⟩
        have hpa0 : ¬ pa < W0.heap.size := by have := F8.size; omega
        have hpb0 : ¬ pb < W0.heap.size := by have := F8.size; omega
        clear hpa hpb t5 F8 HLj
        rw [hY.out] at rA
        rw [hX.out] at rB
        have hS0 : PvS pa pb wy T W0 w7 lj o 0 j m := ⟨rA, rB, HH.out.2.1, HH.out.1, hne, hway.out, hco.out, by omega, hjm, F9⟩
        clear rA rB F9 hway hco hne hjw hu sX oX sY oY sT oT hX hY hZ
        go_wp2
        go_loopw [1, 13, 97] (fun iv nv kv wr => ∃ (k i' n' : Nat) (A B : List UInt8), k ≤ R ∧ iv = .int .i64 (i' : Int) ∧ nv = .int .i64 (n' : Int) ∧ kv = .int .i64 (k : Int) ∧ PvS pa pb wy T W0 wr A B k i' n') (fun _ _ kv _ => R - (intOf kv).toNat)
        case atStart => exact ⟨0, j, m, lj, o, Nat.zero_le _, rfl, rfl, rfl, hS0⟩
        case round =>
          clear hS0
          obtain ⟨k, i', n', A, B, hk, rfl, rfl, rfl, S⟩ := hrel
          by_cases hge : wy.length ≤ k
          · exact (S.end_ hge).elim
          have hkl : k < wy.length := by omega
          have hlt : k < R := by have := HH.out.2.2.2.1; omega
          clear hge
          obtain ⟨hal, cA, cB⟩ := S.step hkl
          obtain ⟨b', off', rfl, HLx, _⟩ := hw.out.load k hkl
          have hxl := hw.out.ok.get hkl
          obtain ⟨x, hx⟩ : ∃ x, x = wy.getD k [] := ⟨_, rfl⟩
          rw [← hx] at cA cB HLx hxl
          have hL1 := HLx wr S.fr
          have sx := hc_size hxl
          have ox := hc_one x
          have sA := hc_size S.lA
          have sB := hc_size S.lB
          obtain ⟨A', hA'⟩ : ∃ v, v = stpM i' A x := ⟨_, rfl⟩
          obtain ⟨B', hB'⟩ : ∃ v, v = stpM i' B x := ⟨_, rfl⟩
          have lA' : A'.length = 32 := by rw [hA']; exact stpM_length _ _ _
          have lB' : B'.length = 32 := by rw [hB']; exact stpM_length _ _ _
          rw [← hA'] at cA
          rw [← hB'] at cB
          have sA' := hc_size lA'
          have oA' := hc_one A'
          have sB' := hc_size lB'
          have oB' := hc_one B'
          obtain ⟨i2, hi2⟩ : ∃ k, k = i' / 2 := ⟨_, rfl⟩
          obtain ⟨n2, hn2⟩ : ∃ k, k = (n' + 1) / 2 := ⟨_, rfl⟩
          have hn' := S.hn
          have hi' := S.hi
          rw [← hi2, ← hn2] at cA cB
          have ei : (i' : Int) / 2 = (i2 : Int) := by omega
          have en : ((n' : Int) + 1).tdiv 2 = (n2 : Int) := by rw [Int.tdiv_eq_ediv_of_nonneg (by omega)]; omega
          have ewi : IntKind.i64.wrap (i2 : Int) = (i2 : Int) := by rw [IntKind.wrap_i64]; omega
          have ewn2 : IntKind.i64.wrap (n2 : Int) = (n2 : Int) := by rw [IntKind.wrap_i64]; omega
          have ewn : IntKind.i64.wrap ((n' : Int) + 1) = (n' : Int) + 1 := by rw [IntKind.wrap_i64]; omega
          have ewm : IntKind.i64.wrap ((n' : Int) - 1) = (n' : Int) - 1 := by rw [IntKind.wrap_i64]; omega
          have l1 : (k : Int) < (R : Int) := by omega
          have heq := fun w => run_equalIn_arrJ w A' B' lA' lB'
          have HA1 := Lib.hid (fun W (h : i' % 2 = 1) => show Calls Tryd.prog 20 #[.agg (hc x), .agg (hc A)] W fun e w' => e = .returned (.agg (hc A')) ∧ Fr F0 W w' by
            rw [hA', stpM, if_pos h]; exact r10Both_any x A hxl S.lA W)
          have HB1 := Lib.hid (fun W (h : i' % 2 = 1) => show Calls Tryd.prog 20 #[.agg (hc x), .agg (hc B)] W fun e w' => e = .returned (.agg (hc B')) ∧ Fr F0 W w' by
            rw [hB', stpM, if_pos h]; exact r10Both_any x B hxl S.lB W)
          have HA2 := Lib.hid (fun W (h : ¬ i' % 2 = 1) => show Calls Tryd.prog 20 #[.agg (hc A), .agg (hc x)] W fun e w' => e = .returned (.agg (hc A')) ∧ Fr F0 W w' by
            rw [hA', stpM, if_neg h]; exact r10Both_any A x S.lA hxl W)
          have HB2 := Lib.hid (fun W (h : ¬ i' % 2 = 1) => show Calls Tryd.prog 20 #[.agg (hc B), .agg (hc x)] W fun e w' => e = .returned (.agg (hc B')) ∧ Fr F0 W w' by
            rw [hB', stpM, if_neg h]; exact r10Both_any B x S.lB hxl W)
          have hba : pb ≠ pa := hab.symm
          have HK := Lib.hid (fun (W : World) (h1 : A' ≠ B') (h2 : W.heap[pa]? = some (.cells (hc A') 27 (0, 0))) (h3 : W.heap[pb]? = some (.cells (hc B') 27 (0, 0))) (f : Fr F0 W0 W) =>
            show PvS pa pb wy T W0 W A' B' (k + 1) i2 n2 from ⟨h2, h3, lA', lB', h1, cA, cB, by omega, by omega, f⟩)
          obtain ⟨EQ, hEQ⟩ : ∃ e, e = decide (A' = B') := ⟨_, rfl⟩
          rw [← hEQ] at heq
          replace hEQ := Lib.hid hEQ
          have qA := S.hA
          have qB := S.hB
          have hfr := S.fr
          have hod : i' % 2 = 1 ∨ (¬ i' % 2 = 1 ∧ n' % 2 = 1 ∧ i' + 1 ≠ n') ∨ (¬ i' % 2 = 1 ∧ ¬ n' % 2 = 1) := by
            rw [alone, decide_eq_false_iff_not] at hal
            omega
          clear S hx HLx hxl lA' lB' cA cB hA' hB' hi2 hn2 hn' hi' hal
          generalize hc x = Xx at *
          generalize hc A = XA at *
          generalize hc B = XB at *
          generalize hc A' = XC at *
          generalize hc B' = XD at *
          go_upto_region 14 with fail
          refine wp_put fun W4 N4 => ?_
          have q15 := N4.new
          have hn1 := N4.ne qA
          have hn2 := N4.ne qB
          replace qA := N4.old qA
          replace qB := N4.old qB
          have F4 := hfr.trans' N4.fr
          clear N4 hfr hL1
          generalize wr.heap.size = g15 at *
          rcases hod with ho | ⟨ho, hp, hq⟩ | ⟨ho, hp⟩
          · have l2 : ((i' : Int) % 2 == 1) = true := by rw [beq_iff_eq]; omega
            replace HA1 := Lib.hid (fun W => HA1.out W ho)
            replace HB1 := Lib.hid (fun W => HB1.out W ho)
            clear HA2 HB2 ho
            go_upto_region 15 with fail
            refine wp_region_noPanic ?_
            refine wp_region_held_drew (S := (fun w' => w'.heap[g15]? = some (.cells Xx 28 (0, 0)) ∧ Fr F0 W0 w')) (by kernel_rfl) ?_ (fun hHeld => ?_)
            · ((try dsimp only) <;> (first | exact ⟨q15, F4.drew⟩ | exact hHeld | exact ⟨keep_fr f5 hHeld.1, hHeld.2.trans' f5⟩ | exact ⟨keep_row (Ne.symm hn1) hHeld.1, hHeld.2.setRow (fun h => absurd h hpa0) _⟩ | exact ⟨keep_row (Ne.symm hn2) hHeld.1, hHeld.2.setRow (fun h => absurd h hpb0) _⟩))
            refine rtake 0 ?_
            refine rtake 3 ?_
            refine wpAnyH_ready (rs := [1, 4]) (by kernel_rfl) (by simp) ?_
            refine AllReadyH.cons (o := ⟨_, _, _, _, _, _⟩) rfl (fun K hK => ?_) (AllReadyH.cons (o := ⟨_, _, _, _, _, _⟩) rfl (fun K hK => ?_) AllReadyH.nil)
            go_simp
            refine hK.out _ _ ?_ (fun hHeld => ?_)
            · ((try dsimp only) <;> (first | exact ⟨q15, F4.drew⟩ | exact hHeld | exact ⟨keep_fr f5 hHeld.1, hHeld.2.trans' f5⟩ | exact ⟨keep_row (Ne.symm hn1) hHeld.1, hHeld.2.setRow (fun h => absurd h hpa0) _⟩ | exact ⟨keep_row (Ne.symm hn2) hHeld.1, hHeld.2.setRow (fun h => absurd h hpb0) _⟩))
            clear hK K
            try (simp only [Act.put, List.setIfInBounds_toArray]; dsimp only [List.set_cons_zero, List.set_cons_succ])
            refine wpAnyH_ready (rs := [2, 4]) (by kernel_rfl) (by simp) ?_
            refine AllReadyH.cons (o := ⟨_, _, _, _, _, _⟩) rfl (fun K hK => ?_) (AllReadyH.cons (o := ⟨_, _, _, _, _, _⟩) rfl (fun K hK => ?_) AllReadyH.nil)
            go_simp
            ((with_reducible refine (HA1.out _).mono ?_); rintro e w5 ⟨rfl, f5⟩; have qA5 := keep_fr ((Fr.refl F0 W4).drew.trans' f5) qA; have qB5 := keep_fr ((Fr.refl F0 W4).drew.trans' f5) qB)
            refine hK.out _ _ ?_ (fun hHeld => ?_)
            · ((try dsimp only) <;> (first | exact ⟨q15, F4.drew⟩ | exact hHeld | exact ⟨keep_fr f5 hHeld.1, hHeld.2.trans' f5⟩ | exact ⟨keep_row (Ne.symm hn1) hHeld.1, hHeld.2.setRow (fun h => absurd h hpa0) _⟩ | exact ⟨keep_row (Ne.symm hn2) hHeld.1, hHeld.2.setRow (fun h => absurd h hpb0) _⟩))
            clear hK K
            try (simp only [Act.put, List.setIfInBounds_toArray]; dsimp only [List.set_cons_zero, List.set_cons_succ])
            refine wpAnyH_ready (rs := [4]) (by kernel_rfl) (by simp) ?_
            refine AllReadyH.cons (o := ⟨_, _, _, _, _, _⟩) rfl (fun K hK => ?_) AllReadyH.nil
            go_simp
            refine hK.out _ _ ?_ (fun hHeld => ?_)
            · ((try dsimp only) <;> (first | exact ⟨q15, F4.drew⟩ | exact hHeld | exact ⟨keep_fr f5 hHeld.1, hHeld.2.trans' f5⟩ | exact ⟨keep_row (Ne.symm hn1) hHeld.1, hHeld.2.setRow (fun h => absurd h hpa0) _⟩ | exact ⟨keep_row (Ne.symm hn2) hHeld.1, hHeld.2.setRow (fun h => absurd h hpb0) _⟩))
            clear hK K
            try (simp only [Act.put, List.setIfInBounds_toArray]; dsimp only [List.set_cons_zero, List.set_cons_succ])
            refine wpAnyH_ready (rs := [5]) (by kernel_rfl) (by simp) ?_
            refine AllReadyH.cons (o := ⟨_, _, _, _, _, _⟩) rfl (fun K hK => ?_) AllReadyH.nil
            go_simp
            ((with_reducible refine (HB1.out _).mono ?_); rintro e w6 ⟨rfl, f5⟩; have qA6 := keep_fr f5 qA5; have qB6 := keep_fr f5 qB5; have qB7 := keep_row (c := XC) hba qB6)
            refine hK.out _ _ ?_ (fun hHeld => ?_)
            · ((try dsimp only) <;> (first | exact ⟨q15, F4.drew⟩ | exact hHeld | exact ⟨keep_fr f5 hHeld.1, hHeld.2.trans' f5⟩ | exact ⟨keep_row (Ne.symm hn1) hHeld.1, hHeld.2.setRow (fun h => absurd h hpa0) _⟩ | exact ⟨keep_row (Ne.symm hn2) hHeld.1, hHeld.2.setRow (fun h => absurd h hpb0) _⟩))
            clear hK K
            try (simp only [Act.put, List.setIfInBounds_toArray]; dsimp only [List.set_cons_zero, List.set_cons_succ])
            refine wpAnyH_ready (rs := [6]) (by kernel_rfl) (by simp) ?_
            refine AllReadyH.cons (o := ⟨_, _, _, _, _, _⟩) rfl (fun K hK => ?_) AllReadyH.nil
            go_simp
            refine hK.out _ _ ?_ (fun hHeld => ?_)
            · ((try dsimp only) <;> (first | exact ⟨q15, F4.drew⟩ | exact hHeld | exact ⟨keep_fr f5 hHeld.1, hHeld.2.trans' f5⟩ | exact ⟨keep_row (Ne.symm hn1) hHeld.1, hHeld.2.setRow (fun h => absurd h hpa0) _⟩ | exact ⟨keep_row (Ne.symm hn2) hHeld.1, hHeld.2.setRow (fun h => absurd h hpb0) _⟩))
            clear hK K
            try (simp only [Act.put, List.setIfInBounds_toArray]; dsimp only [List.set_cons_zero, List.set_cons_succ])
            refine wpAnyH_ready (rs := [7]) (by kernel_rfl) (by simp) ?_
            refine AllReadyH.cons (o := ⟨_, _, _, _, _, _⟩) rfl (fun K hK => ?_) AllReadyH.nil
            go_simp
            refine hK.out _ _ ?_ (fun hHeld => ?_)
            · ((try dsimp only) <;> (first | exact ⟨q15, F4.drew⟩ | exact hHeld | exact ⟨keep_fr f5 hHeld.1, hHeld.2.trans' f5⟩ | exact ⟨keep_row (Ne.symm hn1) hHeld.1, hHeld.2.setRow (fun h => absurd h hpa0) _⟩ | exact ⟨keep_row (Ne.symm hn2) hHeld.1, hHeld.2.setRow (fun h => absurd h hpb0) _⟩))
            clear hK K
            try (simp only [Act.put, List.setIfInBounds_toArray]; dsimp only [List.set_cons_zero, List.set_cons_succ])
            refine wpAnyH_done (by kernel_rfl) ?_ _
            refine NoPanic.normal ?_
            rotate_left
            go_simp
            refine hK.out _ _ ?_ (fun hHeld => ?_)
            · ((try dsimp only) <;> (first | exact ⟨q15, F4.drew⟩ | exact hHeld | exact ⟨keep_fr f5 hHeld.1, hHeld.2.trans' f5⟩ | exact ⟨keep_row (Ne.symm hn1) hHeld.1, hHeld.2.setRow (fun h => absurd h hpa0) _⟩ | exact ⟨keep_row (Ne.symm hn2) hHeld.1, hHeld.2.setRow (fun h => absurd h hpb0) _⟩))
            clear hK K
            try (simp only [Act.put, List.setIfInBounds_toArray]; dsimp only [List.set_cons_zero, List.set_cons_succ])
            refine wpAnyH_ready (rs := [2]) (by kernel_rfl) (by simp) ?_
            refine AllReadyH.cons (o := ⟨_, _, _, _, _, _⟩) rfl (fun K hK => ?_) AllReadyH.nil
            go_simp
            ((with_reducible refine (HA1.out _).mono ?_); rintro e w5 ⟨rfl, f5⟩; have qA5 := keep_fr ((Fr.refl F0 W4).drew.trans' f5) qA; have qB5 := keep_fr ((Fr.refl F0 W4).drew.trans' f5) qB)
            refine hK.out _ _ ?_ (fun hHeld => ?_)
            · ((try dsimp only) <;> (first | exact ⟨q15, F4.drew⟩ | exact hHeld | exact ⟨keep_fr f5 hHeld.1, hHeld.2.trans' f5⟩ | exact ⟨keep_row (Ne.symm hn1) hHeld.1, hHeld.2.setRow (fun h => absurd h hpa0) _⟩ | exact ⟨keep_row (Ne.symm hn2) hHeld.1, hHeld.2.setRow (fun h => absurd h hpb0) _⟩))
            clear hK K
            try (simp only [Act.put, List.setIfInBounds_toArray]; dsimp only [List.set_cons_zero, List.set_cons_succ])
            refine wpAnyH_ready (rs := [5]) (by kernel_rfl) (by simp) ?_
            refine AllReadyH.cons (o := ⟨_, _, _, _, _, _⟩) rfl (fun K hK => ?_) AllReadyH.nil
            go_simp
            ((with_reducible refine (HB1.out _).mono ?_); rintro e w6 ⟨rfl, f5⟩; have qA6 := keep_fr f5 qA5; have qB6 := keep_fr f5 qB5; have qB7 := keep_row (c := XC) hba qB6)
            refine hK.out _ _ ?_ (fun hHeld => ?_)
            · ((try dsimp only) <;> (first | exact ⟨q15, F4.drew⟩ | exact hHeld | exact ⟨keep_fr f5 hHeld.1, hHeld.2.trans' f5⟩ | exact ⟨keep_row (Ne.symm hn1) hHeld.1, hHeld.2.setRow (fun h => absurd h hpa0) _⟩ | exact ⟨keep_row (Ne.symm hn2) hHeld.1, hHeld.2.setRow (fun h => absurd h hpb0) _⟩))
            clear hK K
            try (simp only [Act.put, List.setIfInBounds_toArray]; dsimp only [List.set_cons_zero, List.set_cons_succ])
            refine wpAnyH_ready (rs := [6]) (by kernel_rfl) (by simp) ?_
            refine AllReadyH.cons (o := ⟨_, _, _, _, _, _⟩) rfl (fun K hK => ?_) AllReadyH.nil
            go_simp
            refine hK.out _ _ ?_ (fun hHeld => ?_)
            · ((try dsimp only) <;> (first | exact ⟨q15, F4.drew⟩ | exact hHeld | exact ⟨keep_fr f5 hHeld.1, hHeld.2.trans' f5⟩ | exact ⟨keep_row (Ne.symm hn1) hHeld.1, hHeld.2.setRow (fun h => absurd h hpa0) _⟩ | exact ⟨keep_row (Ne.symm hn2) hHeld.1, hHeld.2.setRow (fun h => absurd h hpb0) _⟩))
            clear hK K
            try (simp only [Act.put, List.setIfInBounds_toArray]; dsimp only [List.set_cons_zero, List.set_cons_succ])
            refine wpAnyH_ready (rs := [7]) (by kernel_rfl) (by simp) ?_
            refine AllReadyH.cons (o := ⟨_, _, _, _, _, _⟩) rfl (fun K hK => ?_) AllReadyH.nil
            go_simp
            refine hK.out _ _ ?_ (fun hHeld => ?_)
            · ((try dsimp only) <;> (first | exact ⟨q15, F4.drew⟩ | exact hHeld | exact ⟨keep_fr f5 hHeld.1, hHeld.2.trans' f5⟩ | exact ⟨keep_row (Ne.symm hn1) hHeld.1, hHeld.2.setRow (fun h => absurd h hpa0) _⟩ | exact ⟨keep_row (Ne.symm hn2) hHeld.1, hHeld.2.setRow (fun h => absurd h hpb0) _⟩))
            clear hK K
            try (simp only [Act.put, List.setIfInBounds_toArray]; dsimp only [List.set_cons_zero, List.set_cons_succ])
            refine wpAnyH_done (by kernel_rfl) ?_ _
            refine NoPanic.normal ?_
            rotate_left
            go_simp
            refine hK.out _ _ ?_ (fun hHeld => ?_)
            · ((try dsimp only) <;> (first | exact ⟨q15, F4.drew⟩ | exact hHeld | exact ⟨keep_fr f5 hHeld.1, hHeld.2.trans' f5⟩ | exact ⟨keep_row (Ne.symm hn1) hHeld.1, hHeld.2.setRow (fun h => absurd h hpa0) _⟩ | exact ⟨keep_row (Ne.symm hn2) hHeld.1, hHeld.2.setRow (fun h => absurd h hpb0) _⟩))
            clear hK K
            try (simp only [Act.put, List.setIfInBounds_toArray]; dsimp only [List.set_cons_zero, List.set_cons_succ])
            refine wpAnyH_ready (rs := [1]) (by kernel_rfl) (by simp) ?_
            refine AllReadyH.cons (o := ⟨_, _, _, _, _, _⟩) rfl (fun K hK => ?_) AllReadyH.nil
            go_simp
            refine hK.out _ _ ?_ (fun hHeld => ?_)
            · ((try dsimp only) <;> (first | exact ⟨q15, F4.drew⟩ | exact hHeld | exact ⟨keep_fr f5 hHeld.1, hHeld.2.trans' f5⟩ | exact ⟨keep_row (Ne.symm hn1) hHeld.1, hHeld.2.setRow (fun h => absurd h hpa0) _⟩ | exact ⟨keep_row (Ne.symm hn2) hHeld.1, hHeld.2.setRow (fun h => absurd h hpb0) _⟩))
            clear hK K
            try (simp only [Act.put, List.setIfInBounds_toArray]; dsimp only [List.set_cons_zero, List.set_cons_succ])
            refine wpAnyH_ready (rs := [2]) (by kernel_rfl) (by simp) ?_
            refine AllReadyH.cons (o := ⟨_, _, _, _, _, _⟩) rfl (fun K hK => ?_) AllReadyH.nil
            go_simp
            ((with_reducible refine (HA1.out _).mono ?_); rintro e w5 ⟨rfl, f5⟩; have qA5 := keep_fr ((Fr.refl F0 W4).drew.trans' f5) qA; have qB5 := keep_fr ((Fr.refl F0 W4).drew.trans' f5) qB)
            refine hK.out _ _ ?_ (fun hHeld => ?_)
            · ((try dsimp only) <;> (first | exact ⟨q15, F4.drew⟩ | exact hHeld | exact ⟨keep_fr f5 hHeld.1, hHeld.2.trans' f5⟩ | exact ⟨keep_row (Ne.symm hn1) hHeld.1, hHeld.2.setRow (fun h => absurd h hpa0) _⟩ | exact ⟨keep_row (Ne.symm hn2) hHeld.1, hHeld.2.setRow (fun h => absurd h hpb0) _⟩))
            clear hK K
            try (simp only [Act.put, List.setIfInBounds_toArray]; dsimp only [List.set_cons_zero, List.set_cons_succ])
            refine wpAnyH_ready (rs := [5]) (by kernel_rfl) (by simp) ?_
            refine AllReadyH.cons (o := ⟨_, _, _, _, _, _⟩) rfl (fun K hK => ?_) AllReadyH.nil
            go_simp
            ((with_reducible refine (HB1.out _).mono ?_); rintro e w6 ⟨rfl, f5⟩; have qA6 := keep_fr f5 qA5; have qB6 := keep_fr f5 qB5; have qB7 := keep_row (c := XC) hba qB6)
            refine hK.out _ _ ?_ (fun hHeld => ?_)
            · ((try dsimp only) <;> (first | exact ⟨q15, F4.drew⟩ | exact hHeld | exact ⟨keep_fr f5 hHeld.1, hHeld.2.trans' f5⟩ | exact ⟨keep_row (Ne.symm hn1) hHeld.1, hHeld.2.setRow (fun h => absurd h hpa0) _⟩ | exact ⟨keep_row (Ne.symm hn2) hHeld.1, hHeld.2.setRow (fun h => absurd h hpb0) _⟩))
            clear hK K
            try (simp only [Act.put, List.setIfInBounds_toArray]; dsimp only [List.set_cons_zero, List.set_cons_succ])
            refine wpAnyH_ready (rs := [6]) (by kernel_rfl) (by simp) ?_
            refine AllReadyH.cons (o := ⟨_, _, _, _, _, _⟩) rfl (fun K hK => ?_) AllReadyH.nil
            go_simp
            refine hK.out _ _ ?_ (fun hHeld => ?_)
            · ((try dsimp only) <;> (first | exact ⟨q15, F4.drew⟩ | exact hHeld | exact ⟨keep_fr f5 hHeld.1, hHeld.2.trans' f5⟩ | exact ⟨keep_row (Ne.symm hn1) hHeld.1, hHeld.2.setRow (fun h => absurd h hpa0) _⟩ | exact ⟨keep_row (Ne.symm hn2) hHeld.1, hHeld.2.setRow (fun h => absurd h hpb0) _⟩))
            clear hK K
            try (simp only [Act.put, List.setIfInBounds_toArray]; dsimp only [List.set_cons_zero, List.set_cons_succ])
            refine wpAnyH_ready (rs := [7]) (by kernel_rfl) (by simp) ?_
            refine AllReadyH.cons (o := ⟨_, _, _, _, _, _⟩) rfl (fun K hK => ?_) AllReadyH.nil
            go_simp
            refine hK.out _ _ ?_ (fun hHeld => ?_)
            · ((try dsimp only) <;> (first | exact ⟨q15, F4.drew⟩ | exact hHeld | exact ⟨keep_fr f5 hHeld.1, hHeld.2.trans' f5⟩ | exact ⟨keep_row (Ne.symm hn1) hHeld.1, hHeld.2.setRow (fun h => absurd h hpa0) _⟩ | exact ⟨keep_row (Ne.symm hn2) hHeld.1, hHeld.2.setRow (fun h => absurd h hpb0) _⟩))
            clear hK K
            try (simp only [Act.put, List.setIfInBounds_toArray]; dsimp only [List.set_cons_zero, List.set_cons_succ])
            refine wpAnyH_done (by kernel_rfl) ?_ _
            refine NoPanic.normal ?_
            rotate_left
            all_goals
              have hA9 : ((w6.setRow pa XC).setRow pb XD).heap[pa]? = some (.cells XC 27 (0, 0)) := keep_row hab (new_row qA6)
              have hB9 : ((w6.setRow pa XC).setRow pb XD).heap[pb]? = some (.cells XD 27 (0, 0)) := new_row qB7
              have F9 := hHeld.2
              clear hHeld qA6 qB6 qB7 qA5 qB5 qA qB q15 f5 F4 HA1 HB1
              generalize (w6.setRow pa XC).setRow pb XD = W9 at *
              cases EQ with
              | false =>
                have hkw := Lib.hid (show wrap64 ((k : Int) + 1) = ((k + 1 : Nat) : Int) by have := HH.out.2.2.2.2; unfold wrap64; omega)
                have hK9 := Lib.hid (HK.out W9 (of_decide_eq_false hEQ.out.symm) hA9 hB9 F9)
                clear HK hEQ
                go_wp2
                go_roundw
                case rel => exact ⟨k + 1, i2, n2, A', B', by omega, by first | rfl | go_num, by first | rfl | go_num, congrArg (Value.int IntKind.i64) hkw.out, hK9.out⟩
                case measure => exact pv_meas R k hlt HH.out.2.2.2.2
              | true =>
                clear HK hEQ
                go_wp2
                go_ret
                exact ⟨rfl, HF.out _ F9⟩
          · have l2 : ((i' : Int) % 2 == 1) = false := by rw [beq_eq_false_iff_ne]; omega
            have l3 : ((n' : Int) % 2 == 1) = true := by rw [beq_iff_eq]; omega
            have l4 : ((i' : Int) == (n' : Int) - 1) = false := by rw [beq_eq_false_iff_ne]; omega
            clear hp hq
            replace HA2 := Lib.hid (fun W => HA2.out W ho)
            replace HB2 := Lib.hid (fun W => HB2.out W ho)
            clear HA1 HB1 ho
            go_upto_region 18 with fail
            refine wp_region_noPanic ?_
            refine wp_region_held_drew (S := (fun w' => w'.heap[g15]? = some (.cells Xx 28 (0, 0)) ∧ Fr F0 W0 w')) (by kernel_rfl) ?_ (fun hHeld => ?_)
            · ((try dsimp only) <;> (first | exact ⟨q15, F4.drew⟩ | exact hHeld | exact ⟨keep_fr f5 hHeld.1, hHeld.2.trans' f5⟩ | exact ⟨keep_row (Ne.symm hn1) hHeld.1, hHeld.2.setRow (fun h => absurd h hpa0) _⟩ | exact ⟨keep_row (Ne.symm hn2) hHeld.1, hHeld.2.setRow (fun h => absurd h hpb0) _⟩))
            refine rtake 1 ?_
            refine rtake 4 ?_
            refine wpAnyH_ready (rs := [0, 3]) (by kernel_rfl) (by simp) ?_
            refine AllReadyH.cons (o := ⟨_, _, _, _, _, _⟩) rfl (fun K hK => ?_) (AllReadyH.cons (o := ⟨_, _, _, _, _, _⟩) rfl (fun K hK => ?_) AllReadyH.nil)
            go_simp
            refine hK.out _ _ ?_ (fun hHeld => ?_)
            · ((try dsimp only) <;> (first | exact ⟨q15, F4.drew⟩ | exact hHeld | exact ⟨keep_fr f5 hHeld.1, hHeld.2.trans' f5⟩ | exact ⟨keep_row (Ne.symm hn1) hHeld.1, hHeld.2.setRow (fun h => absurd h hpa0) _⟩ | exact ⟨keep_row (Ne.symm hn2) hHeld.1, hHeld.2.setRow (fun h => absurd h hpb0) _⟩))
            clear hK K
            try (simp only [Act.put, List.setIfInBounds_toArray]; dsimp only [List.set_cons_zero, List.set_cons_succ])
            refine wpAnyH_ready (rs := [2, 3]) (by kernel_rfl) (by simp) ?_
            refine AllReadyH.cons (o := ⟨_, _, _, _, _, _⟩) rfl (fun K hK => ?_) (AllReadyH.cons (o := ⟨_, _, _, _, _, _⟩) rfl (fun K hK => ?_) AllReadyH.nil)
            go_simp
            ((with_reducible refine (HA2.out _).mono ?_); rintro e w5 ⟨rfl, f5⟩; have qA5 := keep_fr ((Fr.refl F0 W4).drew.trans' f5) qA; have qB5 := keep_fr ((Fr.refl F0 W4).drew.trans' f5) qB)
            refine hK.out _ _ ?_ (fun hHeld => ?_)
            · ((try dsimp only) <;> (first | exact ⟨q15, F4.drew⟩ | exact hHeld | exact ⟨keep_fr f5 hHeld.1, hHeld.2.trans' f5⟩ | exact ⟨keep_row (Ne.symm hn1) hHeld.1, hHeld.2.setRow (fun h => absurd h hpa0) _⟩ | exact ⟨keep_row (Ne.symm hn2) hHeld.1, hHeld.2.setRow (fun h => absurd h hpb0) _⟩))
            clear hK K
            try (simp only [Act.put, List.setIfInBounds_toArray]; dsimp only [List.set_cons_zero, List.set_cons_succ])
            refine wpAnyH_ready (rs := [3]) (by kernel_rfl) (by simp) ?_
            refine AllReadyH.cons (o := ⟨_, _, _, _, _, _⟩) rfl (fun K hK => ?_) AllReadyH.nil
            go_simp
            refine hK.out _ _ ?_ (fun hHeld => ?_)
            · ((try dsimp only) <;> (first | exact ⟨q15, F4.drew⟩ | exact hHeld | exact ⟨keep_fr f5 hHeld.1, hHeld.2.trans' f5⟩ | exact ⟨keep_row (Ne.symm hn1) hHeld.1, hHeld.2.setRow (fun h => absurd h hpa0) _⟩ | exact ⟨keep_row (Ne.symm hn2) hHeld.1, hHeld.2.setRow (fun h => absurd h hpb0) _⟩))
            clear hK K
            try (simp only [Act.put, List.setIfInBounds_toArray]; dsimp only [List.set_cons_zero, List.set_cons_succ])
            refine wpAnyH_ready (rs := [5]) (by kernel_rfl) (by simp) ?_
            refine AllReadyH.cons (o := ⟨_, _, _, _, _, _⟩) rfl (fun K hK => ?_) AllReadyH.nil
            go_simp
            ((with_reducible refine (HB2.out _).mono ?_); rintro e w6 ⟨rfl, f5⟩; have qA6 := keep_fr f5 qA5; have qB6 := keep_fr f5 qB5; have qB7 := keep_row (c := XC) hba qB6)
            refine hK.out _ _ ?_ (fun hHeld => ?_)
            · ((try dsimp only) <;> (first | exact ⟨q15, F4.drew⟩ | exact hHeld | exact ⟨keep_fr f5 hHeld.1, hHeld.2.trans' f5⟩ | exact ⟨keep_row (Ne.symm hn1) hHeld.1, hHeld.2.setRow (fun h => absurd h hpa0) _⟩ | exact ⟨keep_row (Ne.symm hn2) hHeld.1, hHeld.2.setRow (fun h => absurd h hpb0) _⟩))
            clear hK K
            try (simp only [Act.put, List.setIfInBounds_toArray]; dsimp only [List.set_cons_zero, List.set_cons_succ])
            refine wpAnyH_ready (rs := [6]) (by kernel_rfl) (by simp) ?_
            refine AllReadyH.cons (o := ⟨_, _, _, _, _, _⟩) rfl (fun K hK => ?_) AllReadyH.nil
            go_simp
            refine hK.out _ _ ?_ (fun hHeld => ?_)
            · ((try dsimp only) <;> (first | exact ⟨q15, F4.drew⟩ | exact hHeld | exact ⟨keep_fr f5 hHeld.1, hHeld.2.trans' f5⟩ | exact ⟨keep_row (Ne.symm hn1) hHeld.1, hHeld.2.setRow (fun h => absurd h hpa0) _⟩ | exact ⟨keep_row (Ne.symm hn2) hHeld.1, hHeld.2.setRow (fun h => absurd h hpb0) _⟩))
            clear hK K
            try (simp only [Act.put, List.setIfInBounds_toArray]; dsimp only [List.set_cons_zero, List.set_cons_succ])
            refine wpAnyH_ready (rs := [7]) (by kernel_rfl) (by simp) ?_
            refine AllReadyH.cons (o := ⟨_, _, _, _, _, _⟩) rfl (fun K hK => ?_) AllReadyH.nil
            go_simp
            refine hK.out _ _ ?_ (fun hHeld => ?_)
            · ((try dsimp only) <;> (first | exact ⟨q15, F4.drew⟩ | exact hHeld | exact ⟨keep_fr f5 hHeld.1, hHeld.2.trans' f5⟩ | exact ⟨keep_row (Ne.symm hn1) hHeld.1, hHeld.2.setRow (fun h => absurd h hpa0) _⟩ | exact ⟨keep_row (Ne.symm hn2) hHeld.1, hHeld.2.setRow (fun h => absurd h hpb0) _⟩))
            clear hK K
            try (simp only [Act.put, List.setIfInBounds_toArray]; dsimp only [List.set_cons_zero, List.set_cons_succ])
            refine wpAnyH_done (by kernel_rfl) ?_ _
            refine NoPanic.normal ?_
            rotate_left
            go_simp
            refine hK.out _ _ ?_ (fun hHeld => ?_)
            · ((try dsimp only) <;> (first | exact ⟨q15, F4.drew⟩ | exact hHeld | exact ⟨keep_fr f5 hHeld.1, hHeld.2.trans' f5⟩ | exact ⟨keep_row (Ne.symm hn1) hHeld.1, hHeld.2.setRow (fun h => absurd h hpa0) _⟩ | exact ⟨keep_row (Ne.symm hn2) hHeld.1, hHeld.2.setRow (fun h => absurd h hpb0) _⟩))
            clear hK K
            try (simp only [Act.put, List.setIfInBounds_toArray]; dsimp only [List.set_cons_zero, List.set_cons_succ])
            refine wpAnyH_ready (rs := [2]) (by kernel_rfl) (by simp) ?_
            refine AllReadyH.cons (o := ⟨_, _, _, _, _, _⟩) rfl (fun K hK => ?_) AllReadyH.nil
            go_simp
            ((with_reducible refine (HA2.out _).mono ?_); rintro e w5 ⟨rfl, f5⟩; have qA5 := keep_fr ((Fr.refl F0 W4).drew.trans' f5) qA; have qB5 := keep_fr ((Fr.refl F0 W4).drew.trans' f5) qB)
            refine hK.out _ _ ?_ (fun hHeld => ?_)
            · ((try dsimp only) <;> (first | exact ⟨q15, F4.drew⟩ | exact hHeld | exact ⟨keep_fr f5 hHeld.1, hHeld.2.trans' f5⟩ | exact ⟨keep_row (Ne.symm hn1) hHeld.1, hHeld.2.setRow (fun h => absurd h hpa0) _⟩ | exact ⟨keep_row (Ne.symm hn2) hHeld.1, hHeld.2.setRow (fun h => absurd h hpb0) _⟩))
            clear hK K
            try (simp only [Act.put, List.setIfInBounds_toArray]; dsimp only [List.set_cons_zero, List.set_cons_succ])
            refine wpAnyH_ready (rs := [5]) (by kernel_rfl) (by simp) ?_
            refine AllReadyH.cons (o := ⟨_, _, _, _, _, _⟩) rfl (fun K hK => ?_) AllReadyH.nil
            go_simp
            ((with_reducible refine (HB2.out _).mono ?_); rintro e w6 ⟨rfl, f5⟩; have qA6 := keep_fr f5 qA5; have qB6 := keep_fr f5 qB5; have qB7 := keep_row (c := XC) hba qB6)
            refine hK.out _ _ ?_ (fun hHeld => ?_)
            · ((try dsimp only) <;> (first | exact ⟨q15, F4.drew⟩ | exact hHeld | exact ⟨keep_fr f5 hHeld.1, hHeld.2.trans' f5⟩ | exact ⟨keep_row (Ne.symm hn1) hHeld.1, hHeld.2.setRow (fun h => absurd h hpa0) _⟩ | exact ⟨keep_row (Ne.symm hn2) hHeld.1, hHeld.2.setRow (fun h => absurd h hpb0) _⟩))
            clear hK K
            try (simp only [Act.put, List.setIfInBounds_toArray]; dsimp only [List.set_cons_zero, List.set_cons_succ])
            refine wpAnyH_ready (rs := [6]) (by kernel_rfl) (by simp) ?_
            refine AllReadyH.cons (o := ⟨_, _, _, _, _, _⟩) rfl (fun K hK => ?_) AllReadyH.nil
            go_simp
            refine hK.out _ _ ?_ (fun hHeld => ?_)
            · ((try dsimp only) <;> (first | exact ⟨q15, F4.drew⟩ | exact hHeld | exact ⟨keep_fr f5 hHeld.1, hHeld.2.trans' f5⟩ | exact ⟨keep_row (Ne.symm hn1) hHeld.1, hHeld.2.setRow (fun h => absurd h hpa0) _⟩ | exact ⟨keep_row (Ne.symm hn2) hHeld.1, hHeld.2.setRow (fun h => absurd h hpb0) _⟩))
            clear hK K
            try (simp only [Act.put, List.setIfInBounds_toArray]; dsimp only [List.set_cons_zero, List.set_cons_succ])
            refine wpAnyH_ready (rs := [7]) (by kernel_rfl) (by simp) ?_
            refine AllReadyH.cons (o := ⟨_, _, _, _, _, _⟩) rfl (fun K hK => ?_) AllReadyH.nil
            go_simp
            refine hK.out _ _ ?_ (fun hHeld => ?_)
            · ((try dsimp only) <;> (first | exact ⟨q15, F4.drew⟩ | exact hHeld | exact ⟨keep_fr f5 hHeld.1, hHeld.2.trans' f5⟩ | exact ⟨keep_row (Ne.symm hn1) hHeld.1, hHeld.2.setRow (fun h => absurd h hpa0) _⟩ | exact ⟨keep_row (Ne.symm hn2) hHeld.1, hHeld.2.setRow (fun h => absurd h hpb0) _⟩))
            clear hK K
            try (simp only [Act.put, List.setIfInBounds_toArray]; dsimp only [List.set_cons_zero, List.set_cons_succ])
            refine wpAnyH_done (by kernel_rfl) ?_ _
            refine NoPanic.normal ?_
            rotate_left
            go_simp
            refine hK.out _ _ ?_ (fun hHeld => ?_)
            · ((try dsimp only) <;> (first | exact ⟨q15, F4.drew⟩ | exact hHeld | exact ⟨keep_fr f5 hHeld.1, hHeld.2.trans' f5⟩ | exact ⟨keep_row (Ne.symm hn1) hHeld.1, hHeld.2.setRow (fun h => absurd h hpa0) _⟩ | exact ⟨keep_row (Ne.symm hn2) hHeld.1, hHeld.2.setRow (fun h => absurd h hpb0) _⟩))
            clear hK K
            try (simp only [Act.put, List.setIfInBounds_toArray]; dsimp only [List.set_cons_zero, List.set_cons_succ])
            refine wpAnyH_ready (rs := [0]) (by kernel_rfl) (by simp) ?_
            refine AllReadyH.cons (o := ⟨_, _, _, _, _, _⟩) rfl (fun K hK => ?_) AllReadyH.nil
            go_simp
            refine hK.out _ _ ?_ (fun hHeld => ?_)
            · ((try dsimp only) <;> (first | exact ⟨q15, F4.drew⟩ | exact hHeld | exact ⟨keep_fr f5 hHeld.1, hHeld.2.trans' f5⟩ | exact ⟨keep_row (Ne.symm hn1) hHeld.1, hHeld.2.setRow (fun h => absurd h hpa0) _⟩ | exact ⟨keep_row (Ne.symm hn2) hHeld.1, hHeld.2.setRow (fun h => absurd h hpb0) _⟩))
            clear hK K
            try (simp only [Act.put, List.setIfInBounds_toArray]; dsimp only [List.set_cons_zero, List.set_cons_succ])
            refine wpAnyH_ready (rs := [2]) (by kernel_rfl) (by simp) ?_
            refine AllReadyH.cons (o := ⟨_, _, _, _, _, _⟩) rfl (fun K hK => ?_) AllReadyH.nil
            go_simp
            ((with_reducible refine (HA2.out _).mono ?_); rintro e w5 ⟨rfl, f5⟩; have qA5 := keep_fr ((Fr.refl F0 W4).drew.trans' f5) qA; have qB5 := keep_fr ((Fr.refl F0 W4).drew.trans' f5) qB)
            refine hK.out _ _ ?_ (fun hHeld => ?_)
            · ((try dsimp only) <;> (first | exact ⟨q15, F4.drew⟩ | exact hHeld | exact ⟨keep_fr f5 hHeld.1, hHeld.2.trans' f5⟩ | exact ⟨keep_row (Ne.symm hn1) hHeld.1, hHeld.2.setRow (fun h => absurd h hpa0) _⟩ | exact ⟨keep_row (Ne.symm hn2) hHeld.1, hHeld.2.setRow (fun h => absurd h hpb0) _⟩))
            clear hK K
            try (simp only [Act.put, List.setIfInBounds_toArray]; dsimp only [List.set_cons_zero, List.set_cons_succ])
            refine wpAnyH_ready (rs := [5]) (by kernel_rfl) (by simp) ?_
            refine AllReadyH.cons (o := ⟨_, _, _, _, _, _⟩) rfl (fun K hK => ?_) AllReadyH.nil
            go_simp
            ((with_reducible refine (HB2.out _).mono ?_); rintro e w6 ⟨rfl, f5⟩; have qA6 := keep_fr f5 qA5; have qB6 := keep_fr f5 qB5; have qB7 := keep_row (c := XC) hba qB6)
            refine hK.out _ _ ?_ (fun hHeld => ?_)
            · ((try dsimp only) <;> (first | exact ⟨q15, F4.drew⟩ | exact hHeld | exact ⟨keep_fr f5 hHeld.1, hHeld.2.trans' f5⟩ | exact ⟨keep_row (Ne.symm hn1) hHeld.1, hHeld.2.setRow (fun h => absurd h hpa0) _⟩ | exact ⟨keep_row (Ne.symm hn2) hHeld.1, hHeld.2.setRow (fun h => absurd h hpb0) _⟩))
            clear hK K
            try (simp only [Act.put, List.setIfInBounds_toArray]; dsimp only [List.set_cons_zero, List.set_cons_succ])
            refine wpAnyH_ready (rs := [6]) (by kernel_rfl) (by simp) ?_
            refine AllReadyH.cons (o := ⟨_, _, _, _, _, _⟩) rfl (fun K hK => ?_) AllReadyH.nil
            go_simp
            refine hK.out _ _ ?_ (fun hHeld => ?_)
            · ((try dsimp only) <;> (first | exact ⟨q15, F4.drew⟩ | exact hHeld | exact ⟨keep_fr f5 hHeld.1, hHeld.2.trans' f5⟩ | exact ⟨keep_row (Ne.symm hn1) hHeld.1, hHeld.2.setRow (fun h => absurd h hpa0) _⟩ | exact ⟨keep_row (Ne.symm hn2) hHeld.1, hHeld.2.setRow (fun h => absurd h hpb0) _⟩))
            clear hK K
            try (simp only [Act.put, List.setIfInBounds_toArray]; dsimp only [List.set_cons_zero, List.set_cons_succ])
            refine wpAnyH_ready (rs := [7]) (by kernel_rfl) (by simp) ?_
            refine AllReadyH.cons (o := ⟨_, _, _, _, _, _⟩) rfl (fun K hK => ?_) AllReadyH.nil
            go_simp
            refine hK.out _ _ ?_ (fun hHeld => ?_)
            · ((try dsimp only) <;> (first | exact ⟨q15, F4.drew⟩ | exact hHeld | exact ⟨keep_fr f5 hHeld.1, hHeld.2.trans' f5⟩ | exact ⟨keep_row (Ne.symm hn1) hHeld.1, hHeld.2.setRow (fun h => absurd h hpa0) _⟩ | exact ⟨keep_row (Ne.symm hn2) hHeld.1, hHeld.2.setRow (fun h => absurd h hpb0) _⟩))
            clear hK K
            try (simp only [Act.put, List.setIfInBounds_toArray]; dsimp only [List.set_cons_zero, List.set_cons_succ])
            refine wpAnyH_done (by kernel_rfl) ?_ _
            refine NoPanic.normal ?_
            rotate_left
            all_goals
              have hA9 : ((w6.setRow pa XC).setRow pb XD).heap[pa]? = some (.cells XC 27 (0, 0)) := keep_row hab (new_row qA6)
              have hB9 : ((w6.setRow pa XC).setRow pb XD).heap[pb]? = some (.cells XD 27 (0, 0)) := new_row qB7
              have F9 := hHeld.2
              clear hHeld qA6 qB6 qB7 qA5 qB5 qA qB q15 f5 F4 HA2 HB2
              generalize (w6.setRow pa XC).setRow pb XD = W9 at *
              cases EQ with
              | false =>
                have hkw := Lib.hid (show wrap64 ((k : Int) + 1) = ((k + 1 : Nat) : Int) by have := HH.out.2.2.2.2; unfold wrap64; omega)
                have hK9 := Lib.hid (HK.out W9 (of_decide_eq_false hEQ.out.symm) hA9 hB9 F9)
                clear HK hEQ
                go_wp2
                go_roundw
                case rel => exact ⟨k + 1, i2, n2, A', B', by omega, by first | rfl | go_num, by first | rfl | go_num, congrArg (Value.int IntKind.i64) hkw.out, hK9.out⟩
                case measure => exact pv_meas R k hlt HH.out.2.2.2.2
              | true =>
                clear HK hEQ
                go_wp2
                go_ret
                exact ⟨rfl, HF.out _ F9⟩
          · have l2 : ((i' : Int) % 2 == 1) = false := by rw [beq_eq_false_iff_ne]; omega
            have l3 : ((n' : Int) % 2 == 1) = false := by rw [beq_eq_false_iff_ne]; omega
            clear hp
            replace HA2 := Lib.hid (fun W => HA2.out W ho)
            replace HB2 := Lib.hid (fun W => HB2.out W ho)
            clear HA1 HB1 ho
            go_upto_region 18 with fail
            refine wp_region_noPanic ?_
            refine wp_region_held_drew (S := (fun w' => w'.heap[g15]? = some (.cells Xx 28 (0, 0)) ∧ Fr F0 W0 w')) (by kernel_rfl) ?_ (fun hHeld => ?_)
            · ((try dsimp only) <;> (first | exact ⟨q15, F4.drew⟩ | exact hHeld | exact ⟨keep_fr f5 hHeld.1, hHeld.2.trans' f5⟩ | exact ⟨keep_row (Ne.symm hn1) hHeld.1, hHeld.2.setRow (fun h => absurd h hpa0) _⟩ | exact ⟨keep_row (Ne.symm hn2) hHeld.1, hHeld.2.setRow (fun h => absurd h hpb0) _⟩))
            refine rtake 1 ?_
            refine rtake 4 ?_
            refine wpAnyH_ready (rs := [0, 3]) (by kernel_rfl) (by simp) ?_
            refine AllReadyH.cons (o := ⟨_, _, _, _, _, _⟩) rfl (fun K hK => ?_) (AllReadyH.cons (o := ⟨_, _, _, _, _, _⟩) rfl (fun K hK => ?_) AllReadyH.nil)
            go_simp
            refine hK.out _ _ ?_ (fun hHeld => ?_)
            · ((try dsimp only) <;> (first | exact ⟨q15, F4.drew⟩ | exact hHeld | exact ⟨keep_fr f5 hHeld.1, hHeld.2.trans' f5⟩ | exact ⟨keep_row (Ne.symm hn1) hHeld.1, hHeld.2.setRow (fun h => absurd h hpa0) _⟩ | exact ⟨keep_row (Ne.symm hn2) hHeld.1, hHeld.2.setRow (fun h => absurd h hpb0) _⟩))
            clear hK K
            try (simp only [Act.put, List.setIfInBounds_toArray]; dsimp only [List.set_cons_zero, List.set_cons_succ])
            refine wpAnyH_ready (rs := [2, 3]) (by kernel_rfl) (by simp) ?_
            refine AllReadyH.cons (o := ⟨_, _, _, _, _, _⟩) rfl (fun K hK => ?_) (AllReadyH.cons (o := ⟨_, _, _, _, _, _⟩) rfl (fun K hK => ?_) AllReadyH.nil)
            go_simp
            ((with_reducible refine (HA2.out _).mono ?_); rintro e w5 ⟨rfl, f5⟩; have qA5 := keep_fr ((Fr.refl F0 W4).drew.trans' f5) qA; have qB5 := keep_fr ((Fr.refl F0 W4).drew.trans' f5) qB)
            refine hK.out _ _ ?_ (fun hHeld => ?_)
            · ((try dsimp only) <;> (first | exact ⟨q15, F4.drew⟩ | exact hHeld | exact ⟨keep_fr f5 hHeld.1, hHeld.2.trans' f5⟩ | exact ⟨keep_row (Ne.symm hn1) hHeld.1, hHeld.2.setRow (fun h => absurd h hpa0) _⟩ | exact ⟨keep_row (Ne.symm hn2) hHeld.1, hHeld.2.setRow (fun h => absurd h hpb0) _⟩))
            clear hK K
            try (simp only [Act.put, List.setIfInBounds_toArray]; dsimp only [List.set_cons_zero, List.set_cons_succ])
            refine wpAnyH_ready (rs := [3]) (by kernel_rfl) (by simp) ?_
            refine AllReadyH.cons (o := ⟨_, _, _, _, _, _⟩) rfl (fun K hK => ?_) AllReadyH.nil
            go_simp
            refine hK.out _ _ ?_ (fun hHeld => ?_)
            · ((try dsimp only) <;> (first | exact ⟨q15, F4.drew⟩ | exact hHeld | exact ⟨keep_fr f5 hHeld.1, hHeld.2.trans' f5⟩ | exact ⟨keep_row (Ne.symm hn1) hHeld.1, hHeld.2.setRow (fun h => absurd h hpa0) _⟩ | exact ⟨keep_row (Ne.symm hn2) hHeld.1, hHeld.2.setRow (fun h => absurd h hpb0) _⟩))
            clear hK K
            try (simp only [Act.put, List.setIfInBounds_toArray]; dsimp only [List.set_cons_zero, List.set_cons_succ])
            refine wpAnyH_ready (rs := [5]) (by kernel_rfl) (by simp) ?_
            refine AllReadyH.cons (o := ⟨_, _, _, _, _, _⟩) rfl (fun K hK => ?_) AllReadyH.nil
            go_simp
            ((with_reducible refine (HB2.out _).mono ?_); rintro e w6 ⟨rfl, f5⟩; have qA6 := keep_fr f5 qA5; have qB6 := keep_fr f5 qB5; have qB7 := keep_row (c := XC) hba qB6)
            refine hK.out _ _ ?_ (fun hHeld => ?_)
            · ((try dsimp only) <;> (first | exact ⟨q15, F4.drew⟩ | exact hHeld | exact ⟨keep_fr f5 hHeld.1, hHeld.2.trans' f5⟩ | exact ⟨keep_row (Ne.symm hn1) hHeld.1, hHeld.2.setRow (fun h => absurd h hpa0) _⟩ | exact ⟨keep_row (Ne.symm hn2) hHeld.1, hHeld.2.setRow (fun h => absurd h hpb0) _⟩))
            clear hK K
            try (simp only [Act.put, List.setIfInBounds_toArray]; dsimp only [List.set_cons_zero, List.set_cons_succ])
            refine wpAnyH_ready (rs := [6]) (by kernel_rfl) (by simp) ?_
            refine AllReadyH.cons (o := ⟨_, _, _, _, _, _⟩) rfl (fun K hK => ?_) AllReadyH.nil
            go_simp
            refine hK.out _ _ ?_ (fun hHeld => ?_)
            · ((try dsimp only) <;> (first | exact ⟨q15, F4.drew⟩ | exact hHeld | exact ⟨keep_fr f5 hHeld.1, hHeld.2.trans' f5⟩ | exact ⟨keep_row (Ne.symm hn1) hHeld.1, hHeld.2.setRow (fun h => absurd h hpa0) _⟩ | exact ⟨keep_row (Ne.symm hn2) hHeld.1, hHeld.2.setRow (fun h => absurd h hpb0) _⟩))
            clear hK K
            try (simp only [Act.put, List.setIfInBounds_toArray]; dsimp only [List.set_cons_zero, List.set_cons_succ])
            refine wpAnyH_ready (rs := [7]) (by kernel_rfl) (by simp) ?_
            refine AllReadyH.cons (o := ⟨_, _, _, _, _, _⟩) rfl (fun K hK => ?_) AllReadyH.nil
            go_simp
            refine hK.out _ _ ?_ (fun hHeld => ?_)
            · ((try dsimp only) <;> (first | exact ⟨q15, F4.drew⟩ | exact hHeld | exact ⟨keep_fr f5 hHeld.1, hHeld.2.trans' f5⟩ | exact ⟨keep_row (Ne.symm hn1) hHeld.1, hHeld.2.setRow (fun h => absurd h hpa0) _⟩ | exact ⟨keep_row (Ne.symm hn2) hHeld.1, hHeld.2.setRow (fun h => absurd h hpb0) _⟩))
            clear hK K
            try (simp only [Act.put, List.setIfInBounds_toArray]; dsimp only [List.set_cons_zero, List.set_cons_succ])
            refine wpAnyH_done (by kernel_rfl) ?_ _
            refine NoPanic.normal ?_
            rotate_left
            go_simp
            refine hK.out _ _ ?_ (fun hHeld => ?_)
            · ((try dsimp only) <;> (first | exact ⟨q15, F4.drew⟩ | exact hHeld | exact ⟨keep_fr f5 hHeld.1, hHeld.2.trans' f5⟩ | exact ⟨keep_row (Ne.symm hn1) hHeld.1, hHeld.2.setRow (fun h => absurd h hpa0) _⟩ | exact ⟨keep_row (Ne.symm hn2) hHeld.1, hHeld.2.setRow (fun h => absurd h hpb0) _⟩))
            clear hK K
            try (simp only [Act.put, List.setIfInBounds_toArray]; dsimp only [List.set_cons_zero, List.set_cons_succ])
            refine wpAnyH_ready (rs := [2]) (by kernel_rfl) (by simp) ?_
            refine AllReadyH.cons (o := ⟨_, _, _, _, _, _⟩) rfl (fun K hK => ?_) AllReadyH.nil
            go_simp
            ((with_reducible refine (HA2.out _).mono ?_); rintro e w5 ⟨rfl, f5⟩; have qA5 := keep_fr ((Fr.refl F0 W4).drew.trans' f5) qA; have qB5 := keep_fr ((Fr.refl F0 W4).drew.trans' f5) qB)
            refine hK.out _ _ ?_ (fun hHeld => ?_)
            · ((try dsimp only) <;> (first | exact ⟨q15, F4.drew⟩ | exact hHeld | exact ⟨keep_fr f5 hHeld.1, hHeld.2.trans' f5⟩ | exact ⟨keep_row (Ne.symm hn1) hHeld.1, hHeld.2.setRow (fun h => absurd h hpa0) _⟩ | exact ⟨keep_row (Ne.symm hn2) hHeld.1, hHeld.2.setRow (fun h => absurd h hpb0) _⟩))
            clear hK K
            try (simp only [Act.put, List.setIfInBounds_toArray]; dsimp only [List.set_cons_zero, List.set_cons_succ])
            refine wpAnyH_ready (rs := [5]) (by kernel_rfl) (by simp) ?_
            refine AllReadyH.cons (o := ⟨_, _, _, _, _, _⟩) rfl (fun K hK => ?_) AllReadyH.nil
            go_simp
            ((with_reducible refine (HB2.out _).mono ?_); rintro e w6 ⟨rfl, f5⟩; have qA6 := keep_fr f5 qA5; have qB6 := keep_fr f5 qB5; have qB7 := keep_row (c := XC) hba qB6)
            refine hK.out _ _ ?_ (fun hHeld => ?_)
            · ((try dsimp only) <;> (first | exact ⟨q15, F4.drew⟩ | exact hHeld | exact ⟨keep_fr f5 hHeld.1, hHeld.2.trans' f5⟩ | exact ⟨keep_row (Ne.symm hn1) hHeld.1, hHeld.2.setRow (fun h => absurd h hpa0) _⟩ | exact ⟨keep_row (Ne.symm hn2) hHeld.1, hHeld.2.setRow (fun h => absurd h hpb0) _⟩))
            clear hK K
            try (simp only [Act.put, List.setIfInBounds_toArray]; dsimp only [List.set_cons_zero, List.set_cons_succ])
            refine wpAnyH_ready (rs := [6]) (by kernel_rfl) (by simp) ?_
            refine AllReadyH.cons (o := ⟨_, _, _, _, _, _⟩) rfl (fun K hK => ?_) AllReadyH.nil
            go_simp
            refine hK.out _ _ ?_ (fun hHeld => ?_)
            · ((try dsimp only) <;> (first | exact ⟨q15, F4.drew⟩ | exact hHeld | exact ⟨keep_fr f5 hHeld.1, hHeld.2.trans' f5⟩ | exact ⟨keep_row (Ne.symm hn1) hHeld.1, hHeld.2.setRow (fun h => absurd h hpa0) _⟩ | exact ⟨keep_row (Ne.symm hn2) hHeld.1, hHeld.2.setRow (fun h => absurd h hpb0) _⟩))
            clear hK K
            try (simp only [Act.put, List.setIfInBounds_toArray]; dsimp only [List.set_cons_zero, List.set_cons_succ])
            refine wpAnyH_ready (rs := [7]) (by kernel_rfl) (by simp) ?_
            refine AllReadyH.cons (o := ⟨_, _, _, _, _, _⟩) rfl (fun K hK => ?_) AllReadyH.nil
            go_simp
            refine hK.out _ _ ?_ (fun hHeld => ?_)
            · ((try dsimp only) <;> (first | exact ⟨q15, F4.drew⟩ | exact hHeld | exact ⟨keep_fr f5 hHeld.1, hHeld.2.trans' f5⟩ | exact ⟨keep_row (Ne.symm hn1) hHeld.1, hHeld.2.setRow (fun h => absurd h hpa0) _⟩ | exact ⟨keep_row (Ne.symm hn2) hHeld.1, hHeld.2.setRow (fun h => absurd h hpb0) _⟩))
            clear hK K
            try (simp only [Act.put, List.setIfInBounds_toArray]; dsimp only [List.set_cons_zero, List.set_cons_succ])
            refine wpAnyH_done (by kernel_rfl) ?_ _
            refine NoPanic.normal ?_
            rotate_left
            go_simp
            refine hK.out _ _ ?_ (fun hHeld => ?_)
            · ((try dsimp only) <;> (first | exact ⟨q15, F4.drew⟩ | exact hHeld | exact ⟨keep_fr f5 hHeld.1, hHeld.2.trans' f5⟩ | exact ⟨keep_row (Ne.symm hn1) hHeld.1, hHeld.2.setRow (fun h => absurd h hpa0) _⟩ | exact ⟨keep_row (Ne.symm hn2) hHeld.1, hHeld.2.setRow (fun h => absurd h hpb0) _⟩))
            clear hK K
            try (simp only [Act.put, List.setIfInBounds_toArray]; dsimp only [List.set_cons_zero, List.set_cons_succ])
            refine wpAnyH_ready (rs := [0]) (by kernel_rfl) (by simp) ?_
            refine AllReadyH.cons (o := ⟨_, _, _, _, _, _⟩) rfl (fun K hK => ?_) AllReadyH.nil
            go_simp
            refine hK.out _ _ ?_ (fun hHeld => ?_)
            · ((try dsimp only) <;> (first | exact ⟨q15, F4.drew⟩ | exact hHeld | exact ⟨keep_fr f5 hHeld.1, hHeld.2.trans' f5⟩ | exact ⟨keep_row (Ne.symm hn1) hHeld.1, hHeld.2.setRow (fun h => absurd h hpa0) _⟩ | exact ⟨keep_row (Ne.symm hn2) hHeld.1, hHeld.2.setRow (fun h => absurd h hpb0) _⟩))
            clear hK K
            try (simp only [Act.put, List.setIfInBounds_toArray]; dsimp only [List.set_cons_zero, List.set_cons_succ])
            refine wpAnyH_ready (rs := [2]) (by kernel_rfl) (by simp) ?_
            refine AllReadyH.cons (o := ⟨_, _, _, _, _, _⟩) rfl (fun K hK => ?_) AllReadyH.nil
            go_simp
            ((with_reducible refine (HA2.out _).mono ?_); rintro e w5 ⟨rfl, f5⟩; have qA5 := keep_fr ((Fr.refl F0 W4).drew.trans' f5) qA; have qB5 := keep_fr ((Fr.refl F0 W4).drew.trans' f5) qB)
            refine hK.out _ _ ?_ (fun hHeld => ?_)
            · ((try dsimp only) <;> (first | exact ⟨q15, F4.drew⟩ | exact hHeld | exact ⟨keep_fr f5 hHeld.1, hHeld.2.trans' f5⟩ | exact ⟨keep_row (Ne.symm hn1) hHeld.1, hHeld.2.setRow (fun h => absurd h hpa0) _⟩ | exact ⟨keep_row (Ne.symm hn2) hHeld.1, hHeld.2.setRow (fun h => absurd h hpb0) _⟩))
            clear hK K
            try (simp only [Act.put, List.setIfInBounds_toArray]; dsimp only [List.set_cons_zero, List.set_cons_succ])
            refine wpAnyH_ready (rs := [5]) (by kernel_rfl) (by simp) ?_
            refine AllReadyH.cons (o := ⟨_, _, _, _, _, _⟩) rfl (fun K hK => ?_) AllReadyH.nil
            go_simp
            ((with_reducible refine (HB2.out _).mono ?_); rintro e w6 ⟨rfl, f5⟩; have qA6 := keep_fr f5 qA5; have qB6 := keep_fr f5 qB5; have qB7 := keep_row (c := XC) hba qB6)
            refine hK.out _ _ ?_ (fun hHeld => ?_)
            · ((try dsimp only) <;> (first | exact ⟨q15, F4.drew⟩ | exact hHeld | exact ⟨keep_fr f5 hHeld.1, hHeld.2.trans' f5⟩ | exact ⟨keep_row (Ne.symm hn1) hHeld.1, hHeld.2.setRow (fun h => absurd h hpa0) _⟩ | exact ⟨keep_row (Ne.symm hn2) hHeld.1, hHeld.2.setRow (fun h => absurd h hpb0) _⟩))
            clear hK K
            try (simp only [Act.put, List.setIfInBounds_toArray]; dsimp only [List.set_cons_zero, List.set_cons_succ])
            refine wpAnyH_ready (rs := [6]) (by kernel_rfl) (by simp) ?_
            refine AllReadyH.cons (o := ⟨_, _, _, _, _, _⟩) rfl (fun K hK => ?_) AllReadyH.nil
            go_simp
            refine hK.out _ _ ?_ (fun hHeld => ?_)
            · ((try dsimp only) <;> (first | exact ⟨q15, F4.drew⟩ | exact hHeld | exact ⟨keep_fr f5 hHeld.1, hHeld.2.trans' f5⟩ | exact ⟨keep_row (Ne.symm hn1) hHeld.1, hHeld.2.setRow (fun h => absurd h hpa0) _⟩ | exact ⟨keep_row (Ne.symm hn2) hHeld.1, hHeld.2.setRow (fun h => absurd h hpb0) _⟩))
            clear hK K
            try (simp only [Act.put, List.setIfInBounds_toArray]; dsimp only [List.set_cons_zero, List.set_cons_succ])
            refine wpAnyH_ready (rs := [7]) (by kernel_rfl) (by simp) ?_
            refine AllReadyH.cons (o := ⟨_, _, _, _, _, _⟩) rfl (fun K hK => ?_) AllReadyH.nil
            go_simp
            refine hK.out _ _ ?_ (fun hHeld => ?_)
            · ((try dsimp only) <;> (first | exact ⟨q15, F4.drew⟩ | exact hHeld | exact ⟨keep_fr f5 hHeld.1, hHeld.2.trans' f5⟩ | exact ⟨keep_row (Ne.symm hn1) hHeld.1, hHeld.2.setRow (fun h => absurd h hpa0) _⟩ | exact ⟨keep_row (Ne.symm hn2) hHeld.1, hHeld.2.setRow (fun h => absurd h hpb0) _⟩))
            clear hK K
            try (simp only [Act.put, List.setIfInBounds_toArray]; dsimp only [List.set_cons_zero, List.set_cons_succ])
            refine wpAnyH_done (by kernel_rfl) ?_ _
            refine NoPanic.normal ?_
            rotate_left
            all_goals
              have hA9 : ((w6.setRow pa XC).setRow pb XD).heap[pa]? = some (.cells XC 27 (0, 0)) := keep_row hab (new_row qA6)
              have hB9 : ((w6.setRow pa XC).setRow pb XD).heap[pb]? = some (.cells XD 27 (0, 0)) := new_row qB7
              have F9 := hHeld.2
              clear hHeld qA6 qB6 qB7 qA5 qB5 qA qB q15 f5 F4 HA2 HB2
              generalize (w6.setRow pa XC).setRow pb XD = W9 at *
              cases EQ with
              | false =>
                have hkw := Lib.hid (show wrap64 ((k : Int) + 1) = ((k + 1 : Nat) : Int) by have := HH.out.2.2.2.2; unfold wrap64; omega)
                have hK9 := Lib.hid (HK.out W9 (of_decide_eq_false hEQ.out.symm) hA9 hB9 F9)
                clear HK hEQ
                go_wp2
                go_roundw
                case rel => exact ⟨k + 1, i2, n2, A', B', by omega, by first | rfl | go_num, by first | rfl | go_num, congrArg (Value.int IntKind.i64) hkw.out, hK9.out⟩
                case measure => exact pv_meas R k hlt HH.out.2.2.2.2
              | true =>
                clear HK hEQ
                go_wp2
                go_ret
                exact ⟨rfl, HF.out _ F9⟩

theorem merkleProves_any (l : List (List UInt8)) (a : Option Addr) (c : Nat) (i : Int) (o : List UInt8) (ho : o.length = 32) (w : World) (hs : Hs w a c l) (hcub : Cub w) :
    Calls Tryd.prog 6 #[.slice a l.length c, .int .i64 i, .agg (hc o)] w fun e w' => e = .returned (.bool true) ∧ Fr F0 w w' := by
  by_cases hno : l.length = 0 ∨ 12 < l.length
  · exact merkleProves_off l a c i o ho w hs hcub hno
  · exact merkleProves_in l a c i o ho w hs hcub (by omega) (by omega)
end Go.Proofs.YthpcajpiflpmdaaDoor

/- Layer 10 (merkle): the law MerkleDefends: a whole list of hashes behind another, and the region that lays the last one once more. -/
namespace Go.Proofs.YthpcajpiflpmdaaDoor
set_option linter.unusedVariables false
set_option linter.unusedSimpArgs false
open Go.RowKit Go.Shelf

theorem flat_one (l : List (List UInt8)) : ∀ u ∈ l.flatMap (fun h => h.map B8), u.oneCell' = true := fun u hu => by
  rw [List.mem_flatMap] at hu
  obtain ⟨x, _, hx⟩ := hu
  exact hc_one' x u hx
/-- A list of hashes behind another. -/
theorem OwnL.appLs {B : Nat} {w : World} {v : Value} {l l2 : List (List UInt8)} (h : OwnL 28 B w v l) {a2 : Option Addr} {c2 : Nat} (n2 : Nat) (h2 : Hs w a2 c2 l2) (hn : n2 = l2.length) (hB : B ≤ w.heap.size) (hl : l.length ≤ 100000) (hl2 : l2.length ≤ 100000) (ty : TypeId) :
    ∃ a c w', (appL 22 ty #[v, .slice a2 n2 c2]).run Tryd.prog w = .ok (.slice a (l.length + l2.length) c) w' ∧ OwnL 28 B w' (.slice a (l.length + l2.length) c) (l ++ l2) ∧
      Fr (fun k => v.ownBlock = some k) w w' ∧ ∀ k, ablk a = some k → v.ownBlock = some k ∨ w.heap.size ≤ k := by
  subst hn
  obtain ⟨i0, hi, hz, hs, hb⟩ := info_parts Tryd.infoHashJ
  obtain ⟨v', w', hrun, hown, hg, hnw⟩ := run_app (P := Tryd.prog) (w := w) 22 ty 28 i0 _ 32 32 Tryd.underlying22 hi hz hs hb (hc_size z32_length) (by omega) v l.length _ h.own a2 c2 l2.length (l2.flatMap fun h : List UInt8 => h.map B8) h2.sl
    (flat_one l2) (by unfold maxLen; omega) (by omega)
  obtain ⟨a, c, rfl⟩ := own_slice hown
  have F : Fr (fun k => v.ownBlock = some k) w w' := ((Fr.refl F0 w).of0).grown hg fun k hk hl => hk
  have hnw' : ∀ k, ablk a = some k → v.ownBlock = some k ∨ w.heap.size ≤ k := fun k hk => hnw k (by rw [ablk_own]; exact hk)
  refine ⟨a, c, w', hrun, ⟨?_, fun k hk => ?_, fun y hy => ?_⟩, F, hnw'⟩
  · rw [List.length_append, List.flatMap_append]
    exact hown
  · rw [ablk_own] at hk
    rcases hnw' k hk with e | e
    · exact h.blk k e
    · omega
  · rw [List.mem_append] at hy
    rcases hy with hy | hy
    · exact h.ok y hy
    · exact h2.ok y hy

theorem Hs.one (w : World) (x : List UInt8) (hx : x.length = 32) : Hs (w.alloc (.cells (hc x) 28)) (some ⟨w.heap.size, 0, none⟩) 1 [x] :=
  Hs.of_row (l := [x]) (t := 28) (fr := (0, 0)) (by rw [heap_alloc_new]; simp [hc]) (fun y hy => by rw [List.mem_singleton] at hy; rw [hy]; exact hx) rfl (by simp)
theorem md_fst {W W1 : World} {a : Option Addr} {c m : Nat} {l : List (List UInt8)} {v0 : Value} (F : Fr F0 W W1) (ho : OwnL 28 W.heap.size W1 v0 []) (hs : Hs W1 a c l) (hm : m = l.length) (hl : l.length ≤ 100000) :
    ∃ a1 c1 w1, (appL 22 22 #[v0, .slice a m c]).run Tryd.prog W1 = .ok (.slice a1 m c1) w1 ∧ OwnL 28 W.heap.size w1 (.slice a1 m c1) l ∧ Fr F0 W w1 ∧ Fr (fun k => v0.ownBlock = some k) W1 w1 := by
  obtain ⟨a1, c1, w1, h1, h2, h3, h4⟩ := ho.appLs m hs hm F.size (by simp) hl 22
  simp only [List.length_nil, Nat.zero_add, List.nil_append] at h1 h2
  rw [← hm] at h1 h2
  exact ⟨a1, c1, w1, h1, h2, F.trans h3 (fun i hi e => by have := ho.blk i e; omega), h3⟩
theorem md_snd {W w1 : World} {a1 ax : Option Addr} {c1 m : Nat} {l : List (List UInt8)} {x : List UInt8} (F : Fr F0 W w1) (ho : OwnL 28 W.heap.size w1 (.slice a1 m c1) l) (hx : Hs w1 ax 1 [x]) (hm : m = l.length) (hl : l.length ≤ 100000) :
    ∃ a2 c2 w2, (appL 22 22 #[.slice a1 m c1, .slice ax 1 1]).run Tryd.prog w1 = .ok (.slice a2 (m + 1) c2) w2 ∧ Hs w2 a2 c2 (l ++ [x]) ∧ Fr F0 W w2 := by
  obtain ⟨a2, c2, w2, h1, h2, h3, h4⟩ := ho.appLs 1 hx rfl F.size hl (by simp) 22
  simp only [List.length_singleton] at h1 h2
  rw [← hm] at h1 h2
  obtain ⟨a3, c3, e, h5⟩ := h2.is
  simp only [Value.slice.injEq] at e
  obtain ⟨rfl, _, rfl⟩ := e
  exact ⟨a2, c2, w2, h1, h5, F.trans h3 (fun i hi e => by have := ho.blk i e; omega)⟩

set_option maxRecDepth 100000 in
set_option maxHeartbeats 16000000 in
theorem md3 {s1 s2 s3 s4 s5 s6 s7 s8 s9 s10 s11 s12 s13 s14 s15 s16 s17 s18 s19 s20 s21 s22 s23 s24 s25 s26 s27 s28 s29 s30 s31 s32 s33 s34 s35 s36 s37 s38 s39 s40 s41 s42 s43 s44 s45 s46 s47 s48 s49 s50 s51 s52 s53 s54 s55 s56 s57 s58 s59 s60 s61 s62 s63 s64 s65 s66 s67 s68 s69 s70 s71 s72 s73 s74 s75 s76 s77 s78 s79 s80 s81 s82 s83 s84 s85 s86 s87 s88 s89 s90 s91 s92 s93 s94 s95 s96 s97 s98 s99 s100 s101 s102 s103 s104 s105 s106 s107 s108 s109 s110 s111 s112 s113 s114 s115 s116 s117 s118 s119 s120 s121 s122 s123 s124 : Value} {K : Act → World → Prop} {Q : Exit → Act → World → Prop} (w : World) (l : List (List UInt8)) (m p c bb off : Nat) (hs : Hs w (some ⟨bb, off, none⟩) c l) (hm : m = l.length) (hl : l.length ≤ 1000) (hp : m = p + 1)
    (hK : RowKit.Hid (∀ {u3 u38 u39 u40 u41 u42 u43 u44 u45 u46 u47 u48 : Value} {w' : World}, ((∃ a' c', u3 = .slice a' (m + 1) c' ∧ Hs w' a' c' (l ++ [l.getD p []])) ∧ Fr F0 w w') → K ⟨#[.slice (some ⟨bb, off, none⟩) m c, s1, s2, u3, s4, s5, s6, s7, s8, s9, s10, s11, s12, s13, s14, s15, s16, s17, s18, s19, s20, s21, s22, s23, s24, s25, s26, s27, s28, s29, s30, s31, s32, s33, s34, s35, s36, s37, u38, u39, u40, u41, u42, u43, u44, u45, u46, u47, u48, s49, s50, s51, s52, s53, s54, s55, s56, s57, s58, s59, s60, s61, s62, s63, s64, s65, s66, s67, s68, s69, s70, s71, s72, s73, s74, s75, s76, s77, s78, s79, s80, s81, s82, s83, s84, s85, s86, s87, s88, s89, s90, s91, s92, s93, s94, s95, s96, s97, s98, s99, s100, s101, s102, s103, s104, s105, s106, s107, s108, s109, s110, s111, s112, s113, s114, s115, s116, s117, s118, s119, s120, s121, s122, s123, s124], []⟩ w')) :
    Code.wp Tryd.prog ((Tryd.f3.body.bind (findRegion 3)).getD .skip) (Exit.then K Q) ⟨#[.slice (some ⟨bb, off, none⟩) m c, s1, s2, s3, s4, s5, s6, s7, s8, s9, s10, s11, s12, s13, s14, s15, s16, s17, s18, s19, s20, s21, s22, s23, s24, s25, s26, s27, s28, s29, s30, s31, s32, s33, s34, s35, s36, s37, s38, s39, s40, s41, s42, s43, s44, s45, s46, s47, s48, s49, s50, s51, s52, s53, s54, s55, s56, s57, s58, s59, s60, s61, s62, s63, s64, s65, s66, s67, s68, s69, s70, s71, s72, s73, s74, s75, s76, s77, s78, s79, s80, s81, s82, s83, s84, s85, s86, s87, s88, s89, s90, s91, s92, s93, s94, s95, s96, s97, s98, s99, s100, s101, s102, s103, s104, s105, s106, s107, s108, s109, s110, s111, s112, s113, s114, s115, s116, s117, s118, s119, s120, s121, s122, s123, s124], []⟩ w := by
  conv => arg 2; whnf
  have hpl : p < l.length := by omega
  obtain ⟨b', off', e, HLp, _⟩ := hs.load p hpl
  cases e
  have hxl := hs.ok.get hpl
  obtain ⟨x, hx⟩ : ∃ x, x = l.getD p [] := ⟨_, rfl⟩
  rw [← hx] at HLp hxl hK
  have sX := hc_size hxl
  have f1 : Fr F0 w (w.alloc (.cells #[] 28)).drew := ((Fr.refl F0 w).alloc _).drew
  have f2 : Fr F0 w ((w.alloc (.cells #[] 28)).alloc (.cells (hc x) 28)).drew := (((Fr.refl F0 w).alloc _).alloc _).drew
  have f3 : Fr F0 w ((w.alloc (.cells (hc x) 28)).alloc (.cells #[] 28)).drew := (((Fr.refl F0 w).alloc _).alloc _).drew
  have o0 := OwnL.new0 28 w
  obtain ⟨a1, c1, w1, h1a, o1, g1, e1⟩ := md_fst f1 (o0.fr0 (Fr.refl F0 _).drew) (hs.fr f1) hm (by omega)
  obtain ⟨a1', c1', w1', h1b, s1, g1'⟩ := md_snd (g1.alloc _) (o1.fr0 ((Fr.refl F0 _).alloc _)) (Hs.one w1 x hxl) hm (by omega)
  obtain ⟨a2, c2, w2, h2a, o2, g2, e2⟩ := md_fst f2 (o0.fr0 ((Fr.refl F0 _).alloc _).drew) (hs.fr f2) hm (by omega)
  have x2 : Hs w2 (some ⟨w.heap.size + 1, 0, none⟩) 1 [x] := by
    have := (Hs.one (w.alloc (.cells #[] 28)) x hxl).fr (Fr.refl F0 _).drew
    rw [World.size_alloc] at this
    exact this.frx e2 (fun k hk e => by have h1 : w.heap.size + 1 = k := Option.some.inj hk; have h2 : w.heap.size = k := Option.some.inj e; omega)
  obtain ⟨a2', c2', w2', h2b, s2, g2'⟩ := md_snd g2 o2 x2 hm (by omega)
  have o3 : OwnL 28 w.heap.size (w.alloc (.cells (hc x) 28) |>.alloc (.cells #[] 28)).drew (.slice (some ⟨w.heap.size + 1, 0, none⟩) 0 0) [] := by
    have := (OwnL.new0 28 (w.alloc (.cells (hc x) 28))).fr0 (Fr.refl F0 _).drew
    rw [World.size_alloc] at this
    exact this.mono (by omega)
  obtain ⟨a3, c3, w3, h3a, o3', g3, e3⟩ := md_fst f3 o3 (hs.fr f3) hm (by omega)
  have x3 : Hs w3 (some ⟨w.heap.size, 0, none⟩) 1 [x] :=
    ((Hs.one w x hxl).fr ((Fr.refl F0 _).alloc _).drew).frx e3 (fun k hk e => by have h1 : w.heap.size = k := Option.some.inj hk; have h2 : w.heap.size + 1 = k := Option.some.inj e; omega)
  obtain ⟨a3', c3', w3', h3b, s3, g3'⟩ := md_snd g3 o3' x3 hm (by omega)
  replace HLp := Lib.hid HLp
  have HR1 := Lib.hid (And.intro s1 g1')
  have HR2 := Lib.hid (And.intro s2 g2')
  have HR3 := Lib.hid (And.intro s3 g3')
  have hbl := fun W => run_buildLh W (hc x) sX
  have em : (m : Int) - 1 = (p : Int) := by omega
  have ewp : IntKind.i64.wrap (p : Int) = (p : Int) := by rw [IntKind.wrap_i64]; omega
  have lp : (p : Int) < (m : Int) := by omega
  have lq : p < m := by omega
  clear e1 e2 e3 o1 o2 o3 o3' x2 x3 s1 s2 s3 o0 f1 f2 f3 hs hxl hpl hx hm hl hp
  generalize hc x = X at *
  refine wp_region_noPanic ?_
  refine wp_region_held_drew (S := (fun w' => (loadRowAt 28 (.pointer (some ⟨bb, off + p * 32, none⟩))).run Tryd.prog w' = .ok (.agg X) w' ∧ Fr F0 w w')) (by kernel_rfl) ?_ (fun hHeld => ?_)
  · ((try dsimp only) <;> (first | exact ⟨HLp.out _ (Fr.refl F0 w).drew, (Fr.refl F0 w).drew⟩ | exact hHeld | exact ⟨HLp.out _ (hHeld.2.alloc _), hHeld.2.alloc _⟩ | exact ⟨HLp.out _ g1, g1⟩ | exact ⟨HLp.out _ g2, g2⟩ | exact ⟨HLp.out _ g3, g3⟩ | exact ⟨HLp.out _ HR1.out.2, HR1.out.2⟩ | exact ⟨HLp.out _ HR2.out.2, HR2.out.2⟩ | exact ⟨HLp.out _ HR3.out.2, HR3.out.2⟩))
  refine rtake 1 ?_
  refine rtake 3 ?_
  refine rtake 4 ?_
  refine rtake 5 ?_
  refine rtake 6 ?_
  refine rtake 7 ?_
  refine rtake 8 ?_
  refine wpAnyH_ready (rs := [0, 9]) (by kernel_rfl) (by simp) ?_
  refine AllReadyH.cons (o := ⟨_, _, _, _, _, _⟩) rfl (fun K hK => ?_) (AllReadyH.cons (o := ⟨_, _, _, _, _, _⟩) rfl (fun K hK => ?_) AllReadyH.nil)
  go_simp
  refine hK.out _ _ ?_ (fun hHeld => ?_)
  · ((try dsimp only) <;> (first | exact ⟨HLp.out _ (Fr.refl F0 w).drew, (Fr.refl F0 w).drew⟩ | exact hHeld | exact ⟨HLp.out _ (hHeld.2.alloc _), hHeld.2.alloc _⟩ | exact ⟨HLp.out _ g1, g1⟩ | exact ⟨HLp.out _ g2, g2⟩ | exact ⟨HLp.out _ g3, g3⟩ | exact ⟨HLp.out _ HR1.out.2, HR1.out.2⟩ | exact ⟨HLp.out _ HR2.out.2, HR2.out.2⟩ | exact ⟨HLp.out _ HR3.out.2, HR3.out.2⟩))
  clear hK K
  try (simp only [Act.put, List.setIfInBounds_toArray]; dsimp only [List.set_cons_zero, List.set_cons_succ])
  refine wpAnyH_ready (rs := [2, 9]) (by kernel_rfl) (by simp) ?_
  refine AllReadyH.cons (o := ⟨_, _, _, _, _, _⟩) rfl (fun K hK => ?_) (AllReadyH.cons (o := ⟨_, _, _, _, _, _⟩) rfl (fun K hK => ?_) AllReadyH.nil)
  go_simp
  refine hK.out _ _ ?_ (fun hHeld => ?_)
  · ((try dsimp only) <;> (first | exact ⟨HLp.out _ (Fr.refl F0 w).drew, (Fr.refl F0 w).drew⟩ | exact hHeld | exact ⟨HLp.out _ (hHeld.2.alloc _), hHeld.2.alloc _⟩ | exact ⟨HLp.out _ g1, g1⟩ | exact ⟨HLp.out _ g2, g2⟩ | exact ⟨HLp.out _ g3, g3⟩ | exact ⟨HLp.out _ HR1.out.2, HR1.out.2⟩ | exact ⟨HLp.out _ HR2.out.2, HR2.out.2⟩ | exact ⟨HLp.out _ HR3.out.2, HR3.out.2⟩))
  clear hK K
  try (simp only [Act.put, List.setIfInBounds_toArray]; dsimp only [List.set_cons_zero, List.set_cons_succ])
  refine wpAnyH_ready (rs := [9]) (by kernel_rfl) (by simp) ?_
  refine AllReadyH.cons (o := ⟨_, _, _, _, _, _⟩) rfl (fun K hK => ?_) AllReadyH.nil
  go_simp
  refine hK.out _ _ ?_ (fun hHeld => ?_)
  · ((try dsimp only) <;> (first | exact ⟨HLp.out _ (Fr.refl F0 w).drew, (Fr.refl F0 w).drew⟩ | exact hHeld | exact ⟨HLp.out _ (hHeld.2.alloc _), hHeld.2.alloc _⟩ | exact ⟨HLp.out _ g1, g1⟩ | exact ⟨HLp.out _ g2, g2⟩ | exact ⟨HLp.out _ g3, g3⟩ | exact ⟨HLp.out _ HR1.out.2, HR1.out.2⟩ | exact ⟨HLp.out _ HR2.out.2, HR2.out.2⟩ | exact ⟨HLp.out _ HR3.out.2, HR3.out.2⟩))
  clear hK K
  try (simp only [Act.put, List.setIfInBounds_toArray]; dsimp only [List.set_cons_zero, List.set_cons_succ])
  refine wpAnyH_ready (rs := [10]) (by kernel_rfl) (by simp) ?_
  refine AllReadyH.cons (o := ⟨_, _, _, _, _, _⟩) rfl (fun K hK => ?_) AllReadyH.nil
  go_simp
  refine hK.out _ _ ?_ (fun hHeld => ?_)
  · ((try dsimp only) <;> (first | exact ⟨HLp.out _ (Fr.refl F0 w).drew, (Fr.refl F0 w).drew⟩ | exact hHeld | exact ⟨HLp.out _ (hHeld.2.alloc _), hHeld.2.alloc _⟩ | exact ⟨HLp.out _ g1, g1⟩ | exact ⟨HLp.out _ g2, g2⟩ | exact ⟨HLp.out _ g3, g3⟩ | exact ⟨HLp.out _ HR1.out.2, HR1.out.2⟩ | exact ⟨HLp.out _ HR2.out.2, HR2.out.2⟩ | exact ⟨HLp.out _ HR3.out.2, HR3.out.2⟩))
  clear hK K
  try (simp only [Act.put, List.setIfInBounds_toArray]; dsimp only [List.set_cons_zero, List.set_cons_succ])
  refine rtake 11 ?_
  refine wpAnyH_done (by kernel_rfl) ?_ _
  refine NoPanic.normal ?_
  rotate_left
  go_simp
  refine hK.out _ _ ?_ (fun hHeld => ?_)
  · ((try dsimp only) <;> (first | exact ⟨HLp.out _ (Fr.refl F0 w).drew, (Fr.refl F0 w).drew⟩ | exact hHeld | exact ⟨HLp.out _ (hHeld.2.alloc _), hHeld.2.alloc _⟩ | exact ⟨HLp.out _ g1, g1⟩ | exact ⟨HLp.out _ g2, g2⟩ | exact ⟨HLp.out _ g3, g3⟩ | exact ⟨HLp.out _ HR1.out.2, HR1.out.2⟩ | exact ⟨HLp.out _ HR2.out.2, HR2.out.2⟩ | exact ⟨HLp.out _ HR3.out.2, HR3.out.2⟩))
  clear hK K
  try (simp only [Act.put, List.setIfInBounds_toArray]; dsimp only [List.set_cons_zero, List.set_cons_succ])
  refine wpAnyH_ready (rs := [2]) (by kernel_rfl) (by simp) ?_
  refine AllReadyH.cons (o := ⟨_, _, _, _, _, _⟩) rfl (fun K hK => ?_) AllReadyH.nil
  go_simp
  refine hK.out _ _ ?_ (fun hHeld => ?_)
  · ((try dsimp only) <;> (first | exact ⟨HLp.out _ (Fr.refl F0 w).drew, (Fr.refl F0 w).drew⟩ | exact hHeld | exact ⟨HLp.out _ (hHeld.2.alloc _), hHeld.2.alloc _⟩ | exact ⟨HLp.out _ g1, g1⟩ | exact ⟨HLp.out _ g2, g2⟩ | exact ⟨HLp.out _ g3, g3⟩ | exact ⟨HLp.out _ HR1.out.2, HR1.out.2⟩ | exact ⟨HLp.out _ HR2.out.2, HR2.out.2⟩ | exact ⟨HLp.out _ HR3.out.2, HR3.out.2⟩))
  clear hK K
  try (simp only [Act.put, List.setIfInBounds_toArray]; dsimp only [List.set_cons_zero, List.set_cons_succ])
  refine wpAnyH_ready (rs := [10]) (by kernel_rfl) (by simp) ?_
  refine AllReadyH.cons (o := ⟨_, _, _, _, _, _⟩) rfl (fun K hK => ?_) AllReadyH.nil
  go_simp
  refine hK.out _ _ ?_ (fun hHeld => ?_)
  · ((try dsimp only) <;> (first | exact ⟨HLp.out _ (Fr.refl F0 w).drew, (Fr.refl F0 w).drew⟩ | exact hHeld | exact ⟨HLp.out _ (hHeld.2.alloc _), hHeld.2.alloc _⟩ | exact ⟨HLp.out _ g1, g1⟩ | exact ⟨HLp.out _ g2, g2⟩ | exact ⟨HLp.out _ g3, g3⟩ | exact ⟨HLp.out _ HR1.out.2, HR1.out.2⟩ | exact ⟨HLp.out _ HR2.out.2, HR2.out.2⟩ | exact ⟨HLp.out _ HR3.out.2, HR3.out.2⟩))
  clear hK K
  try (simp only [Act.put, List.setIfInBounds_toArray]; dsimp only [List.set_cons_zero, List.set_cons_succ])
  refine rtake 11 ?_
  refine wpAnyH_done (by kernel_rfl) ?_ _
  refine NoPanic.normal ?_
  rotate_left
  go_simp
  refine hK.out _ _ ?_ (fun hHeld => ?_)
  · ((try dsimp only) <;> (first | exact ⟨HLp.out _ (Fr.refl F0 w).drew, (Fr.refl F0 w).drew⟩ | exact hHeld | exact ⟨HLp.out _ (hHeld.2.alloc _), hHeld.2.alloc _⟩ | exact ⟨HLp.out _ g1, g1⟩ | exact ⟨HLp.out _ g2, g2⟩ | exact ⟨HLp.out _ g3, g3⟩ | exact ⟨HLp.out _ HR1.out.2, HR1.out.2⟩ | exact ⟨HLp.out _ HR2.out.2, HR2.out.2⟩ | exact ⟨HLp.out _ HR3.out.2, HR3.out.2⟩))
  clear hK K
  try (simp only [Act.put, List.setIfInBounds_toArray]; dsimp only [List.set_cons_zero, List.set_cons_succ])
  refine wpAnyH_ready (rs := [0]) (by kernel_rfl) (by simp) ?_
  refine AllReadyH.cons (o := ⟨_, _, _, _, _, _⟩) rfl (fun K hK => ?_) AllReadyH.nil
  go_simp
  refine hK.out _ _ ?_ (fun hHeld => ?_)
  · ((try dsimp only) <;> (first | exact ⟨HLp.out _ (Fr.refl F0 w).drew, (Fr.refl F0 w).drew⟩ | exact hHeld | exact ⟨HLp.out _ (hHeld.2.alloc _), hHeld.2.alloc _⟩ | exact ⟨HLp.out _ g1, g1⟩ | exact ⟨HLp.out _ g2, g2⟩ | exact ⟨HLp.out _ g3, g3⟩ | exact ⟨HLp.out _ HR1.out.2, HR1.out.2⟩ | exact ⟨HLp.out _ HR2.out.2, HR2.out.2⟩ | exact ⟨HLp.out _ HR3.out.2, HR3.out.2⟩))
  clear hK K
  try (simp only [Act.put, List.setIfInBounds_toArray]; dsimp only [List.set_cons_zero, List.set_cons_succ])
  refine wpAnyH_ready (rs := [2]) (by kernel_rfl) (by simp) ?_
  refine AllReadyH.cons (o := ⟨_, _, _, _, _, _⟩) rfl (fun K hK => ?_) AllReadyH.nil
  go_simp
  refine hK.out _ _ ?_ (fun hHeld => ?_)
  · ((try dsimp only) <;> (first | exact ⟨HLp.out _ (Fr.refl F0 w).drew, (Fr.refl F0 w).drew⟩ | exact hHeld | exact ⟨HLp.out _ (hHeld.2.alloc _), hHeld.2.alloc _⟩ | exact ⟨HLp.out _ g1, g1⟩ | exact ⟨HLp.out _ g2, g2⟩ | exact ⟨HLp.out _ g3, g3⟩ | exact ⟨HLp.out _ HR1.out.2, HR1.out.2⟩ | exact ⟨HLp.out _ HR2.out.2, HR2.out.2⟩ | exact ⟨HLp.out _ HR3.out.2, HR3.out.2⟩))
  clear hK K
  try (simp only [Act.put, List.setIfInBounds_toArray]; dsimp only [List.set_cons_zero, List.set_cons_succ])
  refine wpAnyH_ready (rs := [10]) (by kernel_rfl) (by simp) ?_
  refine AllReadyH.cons (o := ⟨_, _, _, _, _, _⟩) rfl (fun K hK => ?_) AllReadyH.nil
  go_simp
  refine hK.out _ _ ?_ (fun hHeld => ?_)
  · ((try dsimp only) <;> (first | exact ⟨HLp.out _ (Fr.refl F0 w).drew, (Fr.refl F0 w).drew⟩ | exact hHeld | exact ⟨HLp.out _ (hHeld.2.alloc _), hHeld.2.alloc _⟩ | exact ⟨HLp.out _ g1, g1⟩ | exact ⟨HLp.out _ g2, g2⟩ | exact ⟨HLp.out _ g3, g3⟩ | exact ⟨HLp.out _ HR1.out.2, HR1.out.2⟩ | exact ⟨HLp.out _ HR2.out.2, HR2.out.2⟩ | exact ⟨HLp.out _ HR3.out.2, HR3.out.2⟩))
  clear hK K
  try (simp only [Act.put, List.setIfInBounds_toArray]; dsimp only [List.set_cons_zero, List.set_cons_succ])
  refine rtake 11 ?_
  refine wpAnyH_done (by kernel_rfl) ?_ _
  refine NoPanic.normal ?_
  rotate_left
  all_goals
    first
    | exact hK.out ⟨⟨_, _, rfl, HR1.out.1⟩, HR1.out.2⟩
    | exact hK.out ⟨⟨_, _, rfl, HR2.out.1⟩, HR2.out.2⟩
    | exact hK.out ⟨⟨_, _, rfl, HR3.out.1⟩, HR3.out.2⟩
end Go.Proofs.YthpcajpiflpmdaaDoor

/- Layer 10 (merkle): the law MerkleDefends, walked. -/
namespace Go.Proofs.YthpcajpiflpmdaaDoor
set_option linter.unusedVariables false
set_option linter.unusedSimpArgs false
open Go.RowKit Go.Shelf

set_option maxRecDepth 100000 in
set_option maxHeartbeats 16000000 in
theorem merkleDefends_off (l : List (List UInt8)) (a : Option Addr) (c : Nat) (w : World) (hs : Hs w a c l) (hcub : Cub w) (hno : l.length < 2 ∨ 12 < l.length ∨ l.length % 2 = 0) :
    Calls Tryd.prog 3 #[.slice a l.length c] w fun e w' => e = .returned (.bool true) ∧ Fr F0 w w' := by
  have HL := Lib.hid (fun W (f : Fr F0 w W) => lives10_any W (hcub.fr f fun e => e))
  obtain ⟨m, hm⟩ : ∃ m, m = l.length := ⟨_, rfl⟩
  rw [← hm] at hno ⊢
  have hk : (m : Int) < 2 ∨ (¬ (m : Int) < 2 ∧ (12 : Int) < (m : Int)) ∨ (¬ (m : Int) < 2 ∧ ¬ (12 : Int) < (m : Int) ∧ ((m : Int) % 2 == 0) = true) := by
    by_cases h1 : (m : Int) < 2
    · exact .inl h1
    · by_cases h2 : (12 : Int) < (m : Int)
      · exact .inr (.inl ⟨h1, h2⟩)
      · exact .inr (.inr ⟨h1, h2, by rw [beq_iff_eq]; omega⟩)
  clear hno hs hcub hm
  rcases hk with k1 | ⟨k1, k2⟩ | ⟨k1, k2, k3⟩
  all_goals
    go_enter Tryd.func3, Tryd.ntmps3
    go_wp2_with fail
    (with_reducible refine (HL.out _ (Fr.refl F0 _)).mono ?_); rintro e w2 ⟨rfl, F⟩
    go_wp2_with fail
    (with_reducible refine (HL.out _ F).mono ?_); rintro e w3 ⟨rfl, f⟩
    go_wp2
    go_ret
    exact ⟨rfl, F.trans' f⟩

set_option maxRecDepth 100000 in
set_option maxHeartbeats 16000000 in
theorem merkleDefends_in (l : List (List UInt8)) (a : Option Addr) (c : Nat) (w : World) (hs : Hs w a c l) (hcub : Cub w) (h2 : 2 ≤ l.length) (h12 : l.length ≤ 12) (hod : l.length % 2 = 1) :
    Calls Tryd.prog 3 #[.slice a l.length c] w fun e w' => e = .returned (.bool true) ∧ Fr F0 w w' := by
  obtain ⟨m, hm⟩ : ∃ m, m = l.length := ⟨_, rfl⟩
  obtain ⟨p, hp⟩ : ∃ p, m = p + 1 := ⟨m - 1, by omega⟩
  have hpl : p < l.length := by omega
  obtain ⟨bb, off, rfl, HLp, _⟩ := hs.load p hpl
  have HL := Lib.hid (fun W (f : Fr F0 w W) => lives10_any W (hcub.fr f fun e => e))
  have HPl := Lib.hid (fun W (f : Fr F0 w W) => plain10_any l (some ⟨bb, off, none⟩) l.length c W (hs.fr f) rfl (by omega))
  have HUn := Lib.hid (fun a' c' W (g : Hs W a' c' l) => unlike10_any l a' l.length c' W g rfl (by omega))
  unfold NewHs at HPl
  unfold UnR at HUn
  have HRo := Lib.hid (fun W (f : Fr F0 w W) => mRoot_any l (some ⟨bb, off, none⟩) l.length c W (hs.fr f) rfl (by omega) (by omega) (hcub.fr f fun e => e))
  have HWl := Lib.hid (fun W (f : Fr F0 w W) => mWay_any l (some ⟨bb, off, none⟩) l.length c p W (hs.fr f) rfl hpl (by omega) (hcub.fr f fun e => e))
  have hxl : (l.getD p []).length = 32 := hs.ok.get hpl
  have hTl := rootM_length l hs.ok (by omega)
  obtain ⟨L, hL⟩ : ∃ L, L = l ++ [l.getD p []] := ⟨_, rfl⟩
  have hLl : L.length = m + 1 := by rw [hL]; simp [hm]
  have h32 : all32 L := fun y hy => by
    rw [hL, List.mem_append, List.mem_singleton] at hy
    rcases hy with hy | rfl
    · exact hs.ok y hy
    · exact hxl
  have hrt : rootM L = rootM l := by
    rw [hL, show p = l.length - 1 by omega]
    exact root_twice l hod (by omega)
  have hnt : ∀ k, p ≤ k → k < m + 1 → climbM (wayM L k) (L.getD k []) k (m + 1) = none := fun k h1 h3 => by
    rw [hL, show p = l.length - 1 by omega, hm]
    exact none_twice l hod k (by omega) (by omega) (by omega)
  have hway : unl l → climbM (wayM l p) (l.getD p []) p l.length = some (rootM l) := fun h => climb_way l p hpl h
  have HRm := Lib.hid (fun a' c' W (f : Fr F0 w W) (g : Hs W a' c' L) => mRoot_any L a' (m + 1) c' W g hLl.symm (by omega) (by omega) (hcub.fr f fun e => e))
  rw [hrt] at HRm
  have HWm := Lib.hid (fun a' c' W (f : Fr F0 w W) (g : Hs W a' c' L) k (hk : k < m + 1) => mWay_any L a' (m + 1) c' k W g hLl.symm hk (by omega) (hcub.fr f fun e => e))
  have hsm : ∀ k, (wayM L k).length ≤ 1000 := fun k => by rw [wayM_length]; have := rows_small L.length (by omega); omega
  have hsl : (wayM l p).length ≤ 1000 := by rw [wayM_length]; have := rows_small l.length (by omega); omega
  have HCm := Lib.hid (fun W k b d (f : Fr F0 w W) (g : Hs W b d (wayM L k)) (h1 : p ≤ k) (hk : k < m + 1) => show Calls Tryd.prog 12 #[.agg (hc (rootM l)), .agg (hc (L.getD k [])), .int .i64 (k : Int), .int .i64 ((m + 1 : Nat) : Int), .slice b (wayM L k).length d] W fun e w' => e = .returned (.bool false) ∧ Fr F0 W w' from by
    have := mCheck_in (rootM l) (L.getD k []) k (m + 1) (wayM L k) b (wayM L k).length d W hTl g rfl (h32.get (by omega)) hk (by omega) (by have := hsm k; omega) (hcub.fr f fun e => e)
    rwa [hnt k h1 hk, decide_eq_false (show ¬ (none : Option (List UInt8)) = some (rootM l) from fun e => by cases e)] at this)
  have HCl := Lib.hid (fun W b d (f : Fr F0 w W) (g : Hs W b d (wayM l p)) (hu : unl l) => show Calls Tryd.prog 12 #[.agg (hc (rootM l)), .agg (hc (l.getD p [])), .int .i64 (p : Int), .int .i64 (l.length : Int), .slice b (wayM l p).length d] W fun e w' => e = .returned (.bool true) ∧ Fr F0 W w' from by
    have := mCheck_in (rootM l) (l.getD p []) p l.length (wayM l p) b (wayM l p).length d W hTl g rfl hxl hpl (by omega) (by omega) (hcub.fr f fun e => e)
    rwa [hway hu, decide_eq_true (rfl : some (rootM l) = some (rootM l))] at this)
  have HM3 := Lib.hid (And.intro hs (And.intro hm (And.intro (show l.length ≤ 1000 by omega) hp)))
  rw [← hm] at HPl HUn HRo HWl HCl ⊢
  obtain ⟨M, hM⟩ : ∃ M, M = m + 1 := ⟨_, rfl⟩
  rw [← hM] at HRm HWm HCm
  have HLM := Lib.hid (show M = L.length by omega)
  have k1 : ¬ (m : Int) < 2 := by omega
  have k2 : ¬ (12 : Int) < (m : Int) := by omega
  have k3 : ((m : Int) % 2 == 0) = false := by rw [beq_eq_false_iff_ne]; omega
  have k4 : ¬ m < 2 := by omega
  have k5 : ¬ 12 < m := by omega
  have em : (m : Int) - 1 = (p : Int) := by omega
  have ewp : IntKind.i64.wrap (p : Int) = (p : Int) := by rw [IntKind.wrap_i64]; omega
  have lp : (p : Int) < (m : Int) := by omega
  have HS := Lib.hid (And.intro (show p ≤ M by omega) (show M ≤ 13 by omega))
  have heq := fun w => run_equalIn_hashJ w (rootM l) (rootM l) hTl hTl
  rw [decide_eq_true rfl] at heq
  have sT := hc_size hTl
  have oT := hc_one (rootM l)
  have sY := hc_size hxl
  have HLx := Lib.hid HLp
  have hLx := Lib.hid h32
  replace hL := Lib.hid hL
  replace hM := Lib.hid hM
  clear hs hcub h2 h12 hod hm hp hpl HLp hxl hTl hLl h32 hrt hnt hway hsm hsl
  generalize hc (rootM l) = Z at *
  generalize hc (l.getD p []) = Y at *
  go_enter Tryd.func3, Tryd.ntmps3
  go_wp2_with fail
  (with_reducible refine (HL.out _ (Fr.refl F0 _)).mono ?_); rintro e w2 ⟨rfl, F⟩
  go_wp2_with fail
  (with_reducible refine (HPl.out _ F).mono ?_); rintro e w3 ⟨a3, c3, rfl, hs3, f, _⟩
  replace F := F.trans' f
  clear f
  go_wp2_with fail
  (with_reducible refine (HUn.out a3 c3 _ hs3).mono ?_); rintro e w4 ⟨ub, rfl, hub, f⟩
  replace F := F.trans' f
  clear f HPl HUn hs3
  cases ub with
  | false =>
    clear HRo HWl HRm HWm HCm HCl
    go_wp2_with fail
    (with_reducible refine (HL.out _ F).mono ?_); rintro e w5 ⟨rfl, f⟩
    go_wp2
    go_ret
    exact ⟨rfl, F.trans' f⟩
  | true =>
    replace HCl := Lib.hid (fun W b d f g => HCl.out W b d f g (hub.1 rfl))
    clear HL hub
    go_upto_region 3 with fail
    refine md3 w4 l m p c bb off (HM3.out.1.fr F) HM3.out.2.1 HM3.out.2.2.1 HM3.out.2.2.2 (Lib.hid ?_)
    rename_i w5
    rintro ⟨⟨a5, c5, rfl, hs5⟩, f⟩
    rw [← hL.out] at hs5
    rw [← hM.out]
    obtain ⟨bm, om, rfl, _⟩ := hs5.get 0 (by have := HLM.out; have := HS.out; have := hM.out; omega)
    replace F := F.trans' f
    clear f
    go_wp2_with fail
    (with_reducible refine (HRo.out _ F).mono ?_); rintro e w6 ⟨rfl, f⟩
    replace F := F.trans' f
    replace hs5 := hs5.fr f
    clear f HRo
    go_upto_region 5 with fail
    refine wp_put fun W7 N7 => ?_
    have r4 := N7.new
    replace F := F.trans' N7.fr
    replace hs5 := hs5.fr N7.fr
    clear N7
    generalize w6.heap.size = g4 at *
    go_wp2_with fail
    (with_reducible refine (HRm.out _ _ _ F hs5).mono ?_); rintro e w8 ⟨rfl, f⟩
    replace r4 := keep_fr f r4
    replace F := F.trans' f
    replace hs5 := hs5.fr f
    clear f HRm
    go_upto_region 6 with fail
    refine wp_put fun W9 N9 => ?_
    have r6 := N9.new
    replace r4 := N9.old r4
    replace F := F.trans' N9.fr
    replace hs5 := hs5.fr N9.fr
    clear N9
    generalize w8.heap.size = g6 at *
    go_wp2
    have HK := Lib.hid (And.intro hs5 F)
    go_loopw [8] (fun iv wr => ∃ k : Nat, p ≤ k ∧ k ≤ M ∧ iv = .int .i64 (k : Int) ∧ wr.heap[g4]? = some (.cells Z 28 (0, 0)) ∧ Fr F0 W9 wr) (fun iv _ => M - (intOf iv).toNat)
    case atStart => exact ⟨p, Nat.le_refl _, HS.out.1, rfl, r4, Fr.refl F0 _⟩
    case round =>
      clear r4 r6 hs5 F
      obtain ⟨k, hpk, hkM, rfl, q4, fr⟩ := hrel
      by_cases hlt : k < M
      · have lk : (k : Int) < (M : Int) := by omega
        have F1 := HK.out.2.trans' fr
        have g1 := HK.out.1.fr fr
        obtain ⟨b9, off9, e9, HLk, _⟩ := g1.load k (by have := HLM.out; omega)
        cases e9
        have sV := hc_size (hLx.out.get (show k < L.length by have := HLM.out; omega))
        have HW := Lib.hid (HWm.out _ _ wr F1 g1 k hlt)
        have HC := Lib.hid (fun W b d (f : Fr F0 wr W) (g : Hs W b d (wayM L k)) => HCm.out W k b d (F1.trans' f) g hpk hlt)
        have hkw := Lib.hid (show wrap64 ((k : Int) + 1) = ((k + 1 : Nat) : Int) by have := HS.out; unfold wrap64; omega)
        have HE := Lib.hid (fun W (f : Fr F0 wr W) => fr.trans' f)
        replace HLk := Lib.hid HLk
        clear F1 g1 fr HWm HCm HWl HCl
        generalize hc (L.getD k []) = V at *
        obtain ⟨R, hR⟩ : ∃ R, R = (wayM L k).length := ⟨_, rfl⟩
        rw [← hR] at HW HC
        clear hR
        go_wp2_with fail
        (with_reducible refine HW.out.mono ?_); rintro e w6 ⟨b, d, rfl, hw, f, _⟩
        replace q4 := keep_fr f q4
        replace hw := Lib.hid hw
        replace f := Lib.hid f
        clear HW
        go_upto_region 12 with fail
        refine wp_region_noPanic ?_
        refine wp_region_held_drew (S := (fun w' => (w'.heap[g4]? = some (.cells Z 28 (0, 0)) ∧ (loadRowAt 28 (.pointer (some ⟨bm, om + k * 32, none⟩))).run Tryd.prog w' = .ok (.agg V) w') ∧ Fr F0 w6 w')) (by kernel_rfl) ?_ (fun hHeld => ?_)
        · ((try dsimp only) <;> (first | exact ⟨⟨q4, HLk.out _ (f.out.trans' (Fr.refl F0 w6).drew)⟩, (Fr.refl F0 w6).drew⟩ | exact hHeld | exact ⟨⟨keep_fr f5 hHeld.1.1, HLk.out _ (f.out.trans' (hHeld.2.trans' f5))⟩, hHeld.2.trans' f5⟩))
        refine rtake 0 ?_
        refine rtake 1 ?_
        refine rtake 2 ?_
        refine rtake 3 ?_
        refine rtake 4 ?_
        refine rtake 5 ?_
        refine rtake 6 ?_
        refine rtake 7 ?_
        refine rtake 8 ?_
        refine rtake 9 ?_
        refine rtake 10 ?_
        refine rtake 11 ?_
        refine wpAnyH_ready (rs := [12]) (by kernel_rfl) (by simp) ?_
        refine AllReadyH.cons (o := ⟨_, _, _, _, _, _⟩) rfl (fun K hK => ?_) AllReadyH.nil
        go_simp
        ((with_reducible refine (HC.out _ b d (f.out.trans' hHeld.2) (hw.out.fr hHeld.2)).mono ?_); rintro e w7 ⟨rfl, f5⟩)
        refine hK.out _ _ ?_ (fun hHeld => ?_)
        · ((try dsimp only) <;> (first | exact ⟨⟨q4, HLk.out _ (f.out.trans' (Fr.refl F0 w6).drew)⟩, (Fr.refl F0 w6).drew⟩ | exact hHeld | exact ⟨⟨keep_fr f5 hHeld.1.1, HLk.out _ (f.out.trans' (hHeld.2.trans' f5))⟩, hHeld.2.trans' f5⟩))
        clear hK K
        try (simp only [Act.put, List.setIfInBounds_toArray]; dsimp only [List.set_cons_zero, List.set_cons_succ])
        refine rtake 13 ?_
        refine wpAnyH_done (by kernel_rfl) ?_ _
        refine NoPanic.normal ?_
        have F9 := Lib.hid (HE.out _ (f.out.trans' hHeld.2))
        have r9 := hHeld.1.1
        clear hHeld HC HLk HE q4
        go_wp2
        go_roundw
        case rel => exact ⟨k + 1, Nat.le_succ_of_le hpk, hlt, congrArg (Value.int IntKind.i64) hkw.out, r9, F9.out⟩
        case measure => exact pv_meas M k hlt (by have := HS.out.2; omega)
      · have lk : ¬ (k : Int) < (M : Int) := by omega
        have F1 := HK.out.2.trans' fr
        have HC := Lib.hid (fun W b d (f : Fr F0 wr W) (g : Hs W b d (wayM l p)) => HCl.out W b d (F1.trans' f) g)
        have HE := Lib.hid (fun W (f : Fr F0 wr W) => F1.trans' f)
        have HW := Lib.hid (HWl.out wr F1)
        clear HWm HCm HWl HCl HK fr F1
        obtain ⟨R, hR⟩ : ∃ R, R = (wayM l p).length := ⟨_, rfl⟩
        rw [← hR] at HW HC
        clear hR
        go_wp2_with fail
        (with_reducible refine HW.out.mono ?_); rintro e w6 ⟨b, d, rfl, hw, f, _⟩
        replace q4 := keep_fr f q4
        replace hw := Lib.hid hw
        replace f := Lib.hid f
        clear HW
        go_upto_region 15 with fail
        refine wp_region_noPanic ?_
        refine wp_region_held_drew (S := (fun w' => (w'.heap[g4]? = some (.cells Z 28 (0, 0)) ∧ (loadRowAt 28 (.pointer (some ⟨bb, off + p * 32, none⟩))).run Tryd.prog w' = .ok (.agg Y) w') ∧ Fr F0 w6 w')) (by kernel_rfl) ?_ (fun hHeld => ?_)
        · ((try dsimp only) <;> (first | exact ⟨⟨q4, HLx.out _ (HE.out _ (f.out.trans' (Fr.refl F0 w6).drew))⟩, (Fr.refl F0 w6).drew⟩ | exact hHeld | exact ⟨⟨keep_fr f5 hHeld.1.1, HLx.out _ (HE.out _ (f.out.trans' (hHeld.2.trans' f5)))⟩, hHeld.2.trans' f5⟩))
        refine rtake 0 ?_
        refine rtake 1 ?_
        refine rtake 2 ?_
        refine rtake 3 ?_
        refine rtake 4 ?_
        refine rtake 5 ?_
        refine rtake 6 ?_
        refine rtake 7 ?_
        refine rtake 8 ?_
        refine rtake 9 ?_
        refine rtake 10 ?_
        refine rtake 11 ?_
        refine rtake 12 ?_
        refine rtake 13 ?_
        refine rtake 14 ?_
        refine rtake 15 ?_
        refine wpAnyH_ready (rs := [16]) (by kernel_rfl) (by simp) ?_
        refine AllReadyH.cons (o := ⟨_, _, _, _, _, _⟩) rfl (fun K hK => ?_) AllReadyH.nil
        go_simp
        ((with_reducible refine (HC.out _ b d (f.out.trans' hHeld.2) (hw.out.fr hHeld.2)).mono ?_); rintro e w7 ⟨rfl, f5⟩)
        refine hK.out _ _ ?_ (fun hHeld => ?_)
        · ((try dsimp only) <;> (first | exact ⟨⟨q4, HLx.out _ (HE.out _ (f.out.trans' (Fr.refl F0 w6).drew))⟩, (Fr.refl F0 w6).drew⟩ | exact hHeld | exact ⟨⟨keep_fr f5 hHeld.1.1, HLx.out _ (HE.out _ (f.out.trans' (hHeld.2.trans' f5)))⟩, hHeld.2.trans' f5⟩))
        clear hK K
        try (simp only [Act.put, List.setIfInBounds_toArray]; dsimp only [List.set_cons_zero, List.set_cons_succ])
        refine rtake 17 ?_
        refine rtake 18 ?_
        refine wpAnyH_done (by kernel_rfl) ?_ _
        refine NoPanic.normal ?_
        have F9 := Lib.hid (HE.out _ (f.out.trans' hHeld.2))
        clear hHeld HC HE q4
        go_wp2
        go_ret
        exact ⟨rfl, F9.out⟩
theorem merkleDefends_any (l : List (List UInt8)) (a : Option Addr) (c : Nat) (w : World) (hs : Hs w a c l) (hcub : Cub w) :
    Calls Tryd.prog 3 #[.slice a l.length c] w fun e w' => e = .returned (.bool true) ∧ Fr F0 w w' := by
  by_cases hno : l.length < 2 ∨ 12 < l.length ∨ l.length % 2 = 0
  · exact merkleDefends_off l a c w hs hcub hno
  · exact merkleDefends_in l a c w hs hcub (by omega) (by omega) (by omega)
end Go.Proofs.YthpcajpiflpmdaaDoor
