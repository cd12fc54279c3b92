import Derived.Test.YthpcajpiflpmdaaDoorZ1
import Derived.Test.YthpcajpiflpmdaaDoorZ13
/- Layer 10 (merkle): the law MerkleProves, walked. -/
namespace Go.Proofs.YthpcajpiflpmdaaDoor
set_option linter.unusedVariables false
set_option linter.unusedSimpArgs false
open Go.RowKit Go.Shelf

/-- What Check answers at any place that is one. -/
theorem mCheck_in (root h : List UInt8) (i n : Nat) (wy : List (List UInt8)) (b : Option Addr) (m d : Nat) (w : World) (hr : root.length = 32) (hs : Hs w b d wy) (hm : m = wy.length) (hl : h.length = 32) (hi : i < n) (hb : n ≤ 65536) (hmm : m ≤ 1000000) (hcub : Cub w) :
    Calls Tryd.prog 12 #[.agg (hc root), .agg (hc h), .int .i64 (i : Int), .int .i64 (n : Int), .slice b m d] w fun e w' => e = .returned (.bool (decide (climbM wy h i n = some root))) ∧ Fr F0 w w' := by
  have hV : ((climbM wy h i n).getD z32).length = 32 := by
    cases e : climbM wy h i n with
    | none => exact z32_length
    | some v => exact climbM_length wy h v i n hl e
  refine (mCheck_of root h _ i n _ b m d w hr hl hV fun W f => mClimb_in h i n wy b m d W (hs.fr f) hm hl hi hb hmm (hcub.fr f fun e => e)).mono ?_
  rintro e w' ⟨rfl, f⟩
  refine ⟨?_, f⟩
  cases climbM wy h i n with
  | none => simp
  | some v => simp

theorem pv_meas (R k : Nat) (h : k < R) (h2 : R ≤ 1000) : R - (intOf (Value.int .i64 (wrap64 ((k : Int) + 1)))).toNat < R - (intOf (Value.int .i64 (k : Int))).toNat := by
  rw [show wrap64 ((k : Int) + 1) = ((k + 1 : Nat) : Int) by unfold wrap64; omega]
  show R - (((k + 1 : Nat) : Int)).toNat < R - ((k : Int)).toNat
  omega
/-- What the rounds hold. -/
structure PvS (pa pb : Nat) (wy : List (List UInt8)) (T : List UInt8) (W0 wr : World) (A B : List UInt8) (k i n : Nat) : Prop where
  hA : wr.heap[pa]? = some (.cells (hc A) 27 (0, 0))
  hB : wr.heap[pb]? = some (.cells (hc B) 27 (0, 0))
  lA : A.length = 32
  lB : B.length = 32
  ne : A ≠ B
  cA : climbM (wy.drop k) A i n = some T
  cB : climbM (wy.drop k) B i n = some T
  hn : n ≤ 12
  hi : i < n
  fr : Fr F0 W0 wr
theorem PvS.end_ {pa pb : Nat} {wy : List (List UInt8)} {T : List UInt8} {W0 wr : World} {A B : List UInt8} {k i n : Nat} (h : PvS pa pb wy T W0 wr A B k i n) (hk : wy.length ≤ k) : False := by
  have e1 := h.cA
  have e2 := h.cB
  rw [List.drop_eq_nil_of_le hk, climbM] at e1 e2
  split at e1
  · rename_i h1
    rw [if_pos h1] at e2
    exact h.ne (Option.some.inj (e1.trans e2.symm))
  · cases e1
theorem PvS.step {pa pb : Nat} {wy : List (List UInt8)} {T : List UInt8} {W0 wr : World} {A B : List UInt8} {k i n : Nat} (h : PvS pa pb wy T W0 wr A B k i n) (hk : k < wy.length) :
    alone i n = false ∧ climbM (wy.drop (k + 1)) (stpM i A (wy.getD k [])) (i / 2) ((n + 1) / 2) = some T ∧ climbM (wy.drop (k + 1)) (stpM i B (wy.getD k [])) (i / 2) ((n + 1) / 2) = some T := by
  have e1 := h.cA
  have e2 := h.cB
  rw [List.drop_eq_getElem_cons hk] at e1 e2
  have eg : wy.getD k [] = wy[k] := by rw [List.getD_eq_getElem?_getD, List.getElem?_eq_getElem hk]; rfl
  obtain ⟨a1, a2⟩ := climb_step e1
  obtain ⟨b1, b2⟩ := climb_step e2
  rw [eg]
  refine ⟨?_, a1, b1⟩
  cases e : alone i n with
  | false => rfl
  | true => exact absurd ((a2 e).symm.trans (b2 e)) h.ne

set_option maxRecDepth 100000 in
set_option maxHeartbeats 16000000 in
theorem merkleProves_off (l : List (List UInt8)) (a : Option Addr) (c : Nat) (i : Int) (o : List UInt8) (ho : o.length = 32) (w : World) (hs : Hs w a c l) (hcub : Cub w) (hno : l.length = 0 ∨ 12 < l.length) :
    Calls Tryd.prog 6 #[.slice a l.length c, .int .i64 i, .agg (hc o)] w fun e w' => e = .returned (.bool true) ∧ Fr F0 w w' := by
  have HL := Lib.hid (fun W (f : Fr F0 w W) => lives10_any W (hcub.fr f fun e => e))
  have sX := hc_size ho
  have oX := hc_one o
  obtain ⟨m, hm⟩ : ∃ m, m = l.length := ⟨_, rfl⟩
  rw [← hm] at hno ⊢
  have hk : ((m : Int) == 0) = true ∨ (((m : Int) == 0) = false ∧ (12 : Int) < (m : Int)) := by
    rcases hno with h | h
    · exact .inl (by rw [beq_iff_eq]; omega)
    · exact .inr ⟨by rw [beq_eq_false_iff_ne]; omega, by omega⟩
  generalize hc o = X at *
  clear hno hs hcub ho hm
  rcases hk with k1 | ⟨k1, k2⟩
  all_goals
    go_enter Tryd.func6, Tryd.ntmps6
    go_upto_region 1 with fail
    refine wp_new fun W1 N1 => ?_
    have F := N1.fr
    clear N1
    generalize w.heap.size = g5 at *
    go_wp2_with fail
    (with_reducible refine (HL.out _ F).mono ?_); rintro e w2 ⟨rfl, f⟩
    replace F := F.trans' f
    clear f
    go_wp2_with fail
    (with_reducible refine (HL.out _ F).mono ?_); rintro e w3 ⟨rfl, f⟩
    go_wp2
    go_ret
    exact ⟨rfl, F.trans' f⟩

set_option maxRecDepth 100000 in
set_option maxHeartbeats 16000000 in
theorem merkleProves_in (l : List (List UInt8)) (a : Option Addr) (c : Nat) (i : Int) (o : List UInt8) (ho : o.length = 32) (w : World) (hs : Hs w a c l) (hcub : Cub w) (h0 : 0 < l.length) (h12 : l.length ≤ 12) :
    Calls Tryd.prog 6 #[.slice a l.length c, .int .i64 i, .agg (hc o)] w fun e w' => e = .returned (.bool true) ∧ Fr F0 w w' := by
  obtain ⟨m, hm⟩ : ∃ m, m = l.length := ⟨_, rfl⟩
  obtain ⟨u, hu⟩ : ∃ u : Nat, IntKind.u64.wrap i = (u : Int) := ⟨(IntKind.u64.wrap i).toNat, by rw [IntKind.wrap_u64]; omega⟩
  obtain ⟨j, hj⟩ : ∃ j, j = u % m := ⟨_, rfl⟩
  have hjm : j < m := by rw [hj]; exact Nat.mod_lt _ (by omega)
  have hjl : j < l.length := by omega
  have hjw : wrap64 ((u : Int) % (m : Int)) = (j : Int) := by
    rw [show (u : Int) % (m : Int) = (j : Int) by rw [hj]; rfl]
    unfold wrap64
    omega
  obtain ⟨bb, off, rfl, HLl, _⟩ := hs.load j hjl
  have HL := Lib.hid (fun W (f : Fr F0 w W) => lives10_any W (hcub.fr f fun e => e))
  have HPl := Lib.hid (fun W (f : Fr F0 w W) => plain10_any l (some ⟨bb, off, none⟩) l.length c W (hs.fr f) rfl (by omega))
  have HUn := Lib.hid (fun a' c' W (g : Hs W a' c' l) => unlike10_any l a' l.length c' W g rfl (by omega))
  unfold NewHs at HPl
  unfold UnR at HUn
  have HRo := Lib.hid (fun W (f : Fr F0 w W) => mRoot_any l (some ⟨bb, off, none⟩) l.length c W (hs.fr f) rfl h0 (by omega) (hcub.fr f fun e => e))
  have HWa := Lib.hid (fun W (f : Fr F0 w W) => mWay_any l (some ⟨bb, off, none⟩) l.length c j W (hs.fr f) rfl hjl (by omega) (hcub.fr f fun e => e))
  have hYl : (l.getD j []).length = 32 := hs.ok.get hjl
  have hTl := rootM_length l hs.ok h0
  have hR16 : (wayM l j).length ≤ 1000 := by rw [wayM_length]; have := rows_small l.length (by omega); omega
  have hway : unl l → climbM (wayM l j) (l.getD j []) j l.length = some (rootM l) := fun h => climb_way l j hjl h
  rw [← hm] at HPl HUn HRo HWa h0 h12 hway ⊢
  have HCk := Lib.hid (fun W h b d (f : Fr F0 w W) (g : Hs W b d (wayM l j)) (hl : h.length = 32) => mCheck_in (rootM l) h j m (wayM l j) b (wayM l j).length d W hTl g rfl hl hjm (by omega) (by omega) (hcub.fr f fun e => e))
  obtain ⟨lj, hlj⟩ : ∃ x, x = l.getD j [] := ⟨_, rfl⟩
  obtain ⟨T, hT⟩ : ∃ x, x = rootM l := ⟨_, rfl⟩
  obtain ⟨wy, hwy⟩ : ∃ x, x = wayM l j := ⟨_, rfl⟩
  rw [← hlj] at HLl hYl hway
  rw [← hT] at HRo HCk hTl hway
  rw [← hwy] at HWa HCk hway hR16
  obtain ⟨R, hR⟩ : ∃ x, x = wy.length := ⟨_, rfl⟩
  rw [← hR] at HWa HCk hR16
  have heq := fun w => run_equalIn_hashJ w o lj ho hYl
  have sX := hc_size ho
  have oX := hc_one o
  have sY := hc_size hYl
  have oY := hc_one lj
  have sT := hc_size hTl
  have oT := hc_one T
  have k1 : ((m : Int) == 0) = false := by rw [beq_eq_false_iff_ne]; omega
  have k2 : ¬ (12 : Int) < (m : Int) := by omega
  have k3 : IntKind.u64.wrap (m : Int) = (m : Int) := IntWalk.u64_in _ (by omega)
  have k4 : ¬ 12 < m := by omega
  have k5 : ¬ m = 0 := by omega
  have k6 : (j : Int) < (m : Int) := by omega
  have HH := Lib.hid (And.intro ho (And.intro hYl (And.intro hTl (And.intro hR hR16))))
  replace HLl := Lib.hid HLl
  replace hway := Lib.hid hway
  clear hs hcub ho hm h0 h12 hTl hj hjl hYl hlj hT hwy hR hR16
  obtain ⟨X, hX⟩ : ∃ x, x = hc o := ⟨_, rfl⟩
  obtain ⟨Y, hY⟩ : ∃ x, x = hc lj := ⟨_, rfl⟩
  obtain ⟨Z, hZ⟩ : ∃ x, x = hc T := ⟨_, rfl⟩
  rw [← hX] at sX oX heq ⊢
  rw [← hY] at sY oY heq HLl
  rw [← hZ] at sT oT HRo HCk
  replace hX := Lib.hid hX
  replace hY := Lib.hid hY
  replace hZ := Lib.hid hZ
  go_enter Tryd.func6, Tryd.ntmps6
  go_upto_region 1 with fail
  refine wp_new fun W1 N1 => ?_
  have r5 := N1.new
  have F := N1.fr
  clear N1
  generalize w.heap.size = g5 at *
  go_wp2_with fail
  (with_reducible refine (HL.out _ F).mono ?_); rintro e w2 ⟨rfl, f⟩
  replace r5 := keep_fr f r5
  replace F := F.trans' f
  clear f
  go_wp2_with fail
  (with_reducible refine (HPl.out _ F).mono ?_); rintro e w3 ⟨a3, c3, rfl, hs3, f, _⟩
  replace r5 := keep_fr f r5
  replace F := F.trans' f
  clear f
  go_wp2_with fail
  (with_reducible refine (HUn.out a3 c3 _ hs3).mono ?_); rintro e w4 ⟨ub, rfl, hub, f⟩
  replace r5 := keep_fr f r5
  replace F := F.trans' f
  clear f HPl HUn hs3
  cases ub with
  | false =>
    clear HRo HWa HCk
    go_wp2_with fail
    (with_reducible refine (HL.out _ F).mono ?_); rintro e w5 ⟨rfl, f⟩
    go_wp2
    go_ret
    exact ⟨rfl, F.trans' f⟩
  | true =>
    replace hway := Lib.hid (hway.out (hub.1 rfl))
    clear HL hub
    go_wp2_with fail
    (with_reducible refine (HRo.out _ F).mono ?_); rintro e w5 ⟨rfl, f⟩
    replace r5 := keep_fr f r5
    replace F := F.trans' f
    clear f HRo
    go_upto_region 5 with fail
    refine wp_put fun W6 N6 => ?_
    have r7 := N6.new
    replace r5 := N6.old r5
    replace F := F.trans' N6.fr
    clear N6
    generalize w5.heap.size = g7 at *
    go_wp2_with fail
    (with_reducible refine (HWa.out _ F).mono ?_); rintro e W0 ⟨b, d, rfl, hw, f, _⟩
    replace r5 := keep_fr f r5
    replace r7 := keep_fr f r7
    replace F := F.trans' f
    clear f HWa
    have HC1 := Lib.hid (fun W (f : Fr F0 W0 W) => by
      have := HCk.out W lj b d (F.trans' f) (hw.fr f) HH.out.2.1
      rwa [hway.out, decide_eq_true rfl, ← hY.out] at this)
    have HC2 := Lib.hid (fun W (f : Fr F0 W0 W) => by
      have := HCk.out W o b d (F.trans' f) (hw.fr f) HH.out.1
      rwa [← hX.out] at this)
    have HLj := Lib.hid (fun W (f : Fr F0 W0 W) => HLl.out W (F.trans' f))
    have HF := Lib.hid (fun W (f : Fr F0 W0 W) => F.trans' f)
    replace hw := Lib.hid hw
    clear HCk HLl F
    go_upto_region 6 with fail
    refine wp_region_noPanic ?_
    refine wp_region_held_drew (S := (fun w' => (w'.heap[g7]? = some (.cells Z 28 (0, 0)) ∧ w'.heap[g5]? = some (.cells X 28 (0, 0)) ∧ (loadRowAt 28 (.pointer (some ⟨bb, off + j * 32, none⟩))).run Tryd.prog w' = .ok (.agg Y) w') ∧ Fr F0 W0 w')) (by kernel_rfl) ?_ (fun hHeld => ?_)
    · ((try dsimp only) <;> (first | exact ⟨⟨r7, r5, HLj.out _ (Fr.refl F0 W0).drew⟩, (Fr.refl F0 W0).drew⟩ | exact hHeld | exact ⟨⟨keep_fr f5 hHeld.1.1, keep_fr f5 hHeld.1.2.1, HLj.out _ (hHeld.2.trans' f5)⟩, hHeld.2.trans' f5⟩))
    refine rtake 0 ?_
    refine rtake 1 ?_
    refine rtake 2 ?_
    refine rtake 3 ?_
    refine rtake 4 ?_
    refine rtake 5 ?_
    refine rtake 6 ?_
    refine rtake 7 ?_
    refine rtake 8 ?_
    refine rtake 9 ?_
    refine rtake 10 ?_
    refine rtake 11 ?_
    refine rtake 12 ?_
    refine rtake 13 ?_
    refine rtake 14 ?_
    refine rtake 15 ?_
    refine wpAnyH_ready (rs := [16]) (by kernel_rfl) (by simp) ?_
    refine AllReadyH.cons (o := ⟨_, _, _, _, _, _⟩) rfl (fun K hK => ?_) AllReadyH.nil
    go_simp
    ((with_reducible refine (HC1.out _ hHeld.2).mono ?_); rintro e w5 ⟨rfl, f5⟩)
    refine hK.out _ _ ?_ (fun hHeld => ?_)
    · ((try dsimp only) <;> (first | exact ⟨⟨r7, r5, HLj.out _ (Fr.refl F0 W0).drew⟩, (Fr.refl F0 W0).drew⟩ | exact hHeld | exact ⟨⟨keep_fr f5 hHeld.1.1, keep_fr f5 hHeld.1.2.1, HLj.out _ (hHeld.2.trans' f5)⟩, hHeld.2.trans' f5⟩))
    clear hK K
    try (simp only [Act.put, List.setIfInBounds_toArray]; dsimp only [List.set_cons_zero, List.set_cons_succ])
    refine rtake 17 ?_
    refine rtake 18 ?_
    refine wpAnyH_done (by kernel_rfl) ?_ _
    refine NoPanic.normal ?_
    obtain ⟨⟨q7, q5, qj⟩, F6⟩ := hHeld
    clear r5 r7 HC1
    obtain ⟨EQ, hEQ⟩ : ∃ e, e = decide (o = lj) := ⟨_, rfl⟩
    rw [← hEQ] at heq
    cases EQ with
    | true =>
      clear hEQ HC2
      go_upto_region 8 with fail
      refine wp_region_noPanic ?_
      refine wp_region_held_drew (S := (fun w' => (w'.heap[g7]? = some (.cells Z 28 (0, 0)) ∧ w'.heap[g5]? = some (.cells X 28 (0, 0)) ∧ (loadRowAt 28 (.pointer (some ⟨bb, off + j * 32, none⟩))).run Tryd.prog w' = .ok (.agg Y) w') ∧ Fr F0 W0 w')) (by kernel_rfl) ?_ (fun hHeld => ?_)
      · ((try dsimp only) <;> (first | exact ⟨⟨q7, q5, HLj.out _ F6.drew⟩, F6.drew⟩ | exact hHeld))
      refine rtake 0 ?_
      refine rtake 1 ?_
      refine rtake 2 ?_
      refine rtake 3 ?_
      refine rtake 4 ?_
      refine rtake 5 ?_
      refine rtake 6 ?_
      refine rleave 7 ?_
      refine rleave 8 ?_
      refine rleave 9 ?_
      refine rleave 10 ?_
      refine rleave 11 ?_
      refine rleave 12 ?_
      refine rleave 13 ?_
      refine rleave 14 ?_
      refine rtake 15 ?_
      refine wpAnyH_done (by kernel_rfl) ?_ _
      refine NoPanic.normal ?_
      go_wp2
      go_ret
      exact ⟨rfl, HF.out _ hHeld.2⟩
    | false =>
      have hne : lj ≠ o := fun e => of_decide_eq_false hEQ.symm e.symm
      obtain ⟨CB, hCB⟩ : ∃ e, e = decide (climbM wy o j m = some T) := ⟨_, rfl⟩
      rw [← hCB] at HC2
      replace hCB := Lib.hid hCB
      clear hEQ
      go_upto_region 8 with fail
      refine wp_region_noPanic ?_
      refine wp_region_held_drew (S := (fun w' => (w'.heap[g7]? = some (.cells Z 28 (0, 0)) ∧ w'.heap[g5]? = some (.cells X 28 (0, 0)) ∧ (loadRowAt 28 (.pointer (some ⟨bb, off + j * 32, none⟩))).run Tryd.prog w' = .ok (.agg Y) w') ∧ Fr F0 W0 w')) (by kernel_rfl) ?_ (fun hHeld => ?_)
      · ((try dsimp only) <;> (first | exact ⟨⟨q7, q5, HLj.out _ F6.drew⟩, F6.drew⟩ | exact hHeld | exact ⟨⟨keep_fr f5 hHeld.1.1, keep_fr f5 hHeld.1.2.1, HLj.out _ (hHeld.2.trans' f5)⟩, hHeld.2.trans' f5⟩))
      refine rtake 0 ?_
      refine rtake 1 ?_
      refine rtake 2 ?_
      refine rtake 3 ?_
      refine rtake 4 ?_
      refine rtake 5 ?_
      refine rtake 6 ?_
      refine rtake 7 ?_
      refine rtake 8 ?_
      refine rtake 9 ?_
      refine rtake 10 ?_
      refine rtake 11 ?_
      refine rtake 12 ?_
      refine wpAnyH_ready (rs := [13]) (by kernel_rfl) (by simp) ?_
      refine AllReadyH.cons (o := ⟨_, _, _, _, _, _⟩) rfl (fun K hK => ?_) AllReadyH.nil
      go_simp
      ((with_reducible refine (HC2.out _ hHeld.2).mono ?_); rintro e w6 ⟨rfl, f5⟩)
      refine hK.out _ _ ?_ (fun hHeld => ?_)
      · ((try dsimp only) <;> (first | exact ⟨⟨q7, q5, HLj.out _ F6.drew⟩, F6.drew⟩ | exact hHeld | exact ⟨⟨keep_fr f5 hHeld.1.1, keep_fr f5 hHeld.1.2.1, HLj.out _ (hHeld.2.trans' f5)⟩, hHeld.2.trans' f5⟩))
      clear hK K
      try (simp only [Act.put, List.setIfInBounds_toArray]; dsimp only [List.set_cons_zero, List.set_cons_succ])
      refine rtake 14 ?_
      refine rtake 15 ?_
      refine wpAnyH_done (by kernel_rfl) ?_ _
      refine NoPanic.normal ?_
      cases CB with
      | false =>
        clear hCB HC2
        go_wp2
        go_ret
        exact ⟨rfl, HF.out _ hHeld.2⟩
      | true =>
        have hco := Lib.hid (of_decide_eq_true hCB.out.symm)
        obtain ⟨⟨t7, t5, tj⟩, F8⟩ := hHeld
        clear hCB HC2 q7 q5 qj F6 t7 tj f5 heq
        go_upto_region 10 with fail
        refine mp10 W0 w6 X Y j m c bb off g5 sX sY oX oY hjm k6 HLj t5 F8 (Lib.hid ?_)
        rename_i w7
        rintro ⟨⟨pa, pb, rfl, rfl, rfl, ⟨hab, hpa, hpb⟩, rA, rB⟩, F9⟩
        have hpa0 : ¬ pa < W0.heap.size := by have := F8.size; omega
        have hpb0 : ¬ pb < W0.heap.size := by have := F8.size; omega
        clear hpa hpb t5 F8 HLj
        rw [hY.out] at rA
        rw [hX.out] at rB
        have hS0 : PvS pa pb wy T W0 w7 lj o 0 j m := ⟨rA, rB, HH.out.2.1, HH.out.1, hne, hway.out, hco.out, by omega, hjm, F9⟩
        clear rA rB F9 hway hco hne hjw hu sX oX sY oY sT oT hX hY hZ
        go_wp2
        go_loopw [1, 13, 97] (fun iv nv kv wr => ∃ (k i' n' : Nat) (A B : List UInt8), k ≤ R ∧ iv = .int .i64 (i' : Int) ∧ nv = .int .i64 (n' : Int) ∧ kv = .int .i64 (k : Int) ∧ PvS pa pb wy T W0 wr A B k i' n') (fun _ _ kv _ => R - (intOf kv).toNat)
        case atStart => exact ⟨0, j, m, lj, o, Nat.zero_le _, rfl, rfl, rfl, hS0⟩
        case round =>
          clear hS0
          obtain ⟨k, i', n', A, B, hk, rfl, rfl, rfl, S⟩ := hrel
          by_cases hge : wy.length ≤ k
          · exact (S.end_ hge).elim
          have hkl : k < wy.length := by omega
          have hlt : k < R := by have := HH.out.2.2.2.1; omega
          clear hge
          obtain ⟨hal, cA, cB⟩ := S.step hkl
          obtain ⟨b', off', rfl, HLx, _⟩ := hw.out.load k hkl
          have hxl := hw.out.ok.get hkl
          obtain ⟨x, hx⟩ : ∃ x, x = wy.getD k [] := ⟨_, rfl⟩
          rw [← hx] at cA cB HLx hxl
          have hL1 := HLx wr S.fr
          have sx := hc_size hxl
          have ox := hc_one x
          have sA := hc_size S.lA
          have sB := hc_size S.lB
          obtain ⟨A', hA'⟩ : ∃ v, v = stpM i' A x := ⟨_, rfl⟩
          obtain ⟨B', hB'⟩ : ∃ v, v = stpM i' B x := ⟨_, rfl⟩
          have lA' : A'.length = 32 := by rw [hA']; exact stpM_length _ _ _
          have lB' : B'.length = 32 := by rw [hB']; exact stpM_length _ _ _
          rw [← hA'] at cA
          rw [← hB'] at cB
          have sA' := hc_size lA'
          have oA' := hc_one A'
          have sB' := hc_size lB'
          have oB' := hc_one B'
          obtain ⟨i2, hi2⟩ : ∃ k, k = i' / 2 := ⟨_, rfl⟩
          obtain ⟨n2, hn2⟩ : ∃ k, k = (n' + 1) / 2 := ⟨_, rfl⟩
          have hn' := S.hn
          have hi' := S.hi
          rw [← hi2, ← hn2] at cA cB
          have ei : (i' : Int) / 2 = (i2 : Int) := by omega
          have en : ((n' : Int) + 1).tdiv 2 = (n2 : Int) := by rw [Int.tdiv_eq_ediv_of_nonneg (by omega)]; omega
          have ewi : IntKind.i64.wrap (i2 : Int) = (i2 : Int) := by rw [IntKind.wrap_i64]; omega
          have ewn2 : IntKind.i64.wrap (n2 : Int) = (n2 : Int) := by rw [IntKind.wrap_i64]; omega
          have ewn : IntKind.i64.wrap ((n' : Int) + 1) = (n' : Int) + 1 := by rw [IntKind.wrap_i64]; omega
          have ewm : IntKind.i64.wrap ((n' : Int) - 1) = (n' : Int) - 1 := by rw [IntKind.wrap_i64]; omega
          have l1 : (k : Int) < (R : Int) := by omega
          have heq := fun w => run_equalIn_arrJ w A' B' lA' lB'
          have HA1 := Lib.hid (fun W (h : i' % 2 = 1) => show Calls Tryd.prog 20 #[.agg (hc x), .agg (hc A)] W fun e w' => e = .returned (.agg (hc A')) ∧ Fr F0 W w' by
            rw [hA', stpM, if_pos h]; exact r10Both_any x A hxl S.lA W)
          have HB1 := Lib.hid (fun W (h : i' % 2 = 1) => show Calls Tryd.prog 20 #[.agg (hc x), .agg (hc B)] W fun e w' => e = .returned (.agg (hc B')) ∧ Fr F0 W w' by
            rw [hB', stpM, if_pos h]; exact r10Both_any x B hxl S.lB W)
          have HA2 := Lib.hid (fun W (h : ¬ i' % 2 = 1) => show Calls Tryd.prog 20 #[.agg (hc A), .agg (hc x)] W fun e w' => e = .returned (.agg (hc A')) ∧ Fr F0 W w' by
            rw [hA', stpM, if_neg h]; exact r10Both_any A x S.lA hxl W)
          have HB2 := Lib.hid (fun W (h : ¬ i' % 2 = 1) => show Calls Tryd.prog 20 #[.agg (hc B), .agg (hc x)] W fun e w' => e = .returned (.agg (hc B')) ∧ Fr F0 W w' by
            rw [hB', stpM, if_neg h]; exact r10Both_any B x S.lB hxl W)
          have hba : pb ≠ pa := hab.symm
          have HK := Lib.hid (fun (W : World) (h1 : A' ≠ B') (h2 : W.heap[pa]? = some (.cells (hc A') 27 (0, 0))) (h3 : W.heap[pb]? = some (.cells (hc B') 27 (0, 0))) (f : Fr F0 W0 W) =>
            show PvS pa pb wy T W0 W A' B' (k + 1) i2 n2 from ⟨h2, h3, lA', lB', h1, cA, cB, by omega, by omega, f⟩)
          obtain ⟨EQ, hEQ⟩ : ∃ e, e = decide (A' = B') := ⟨_, rfl⟩
          rw [← hEQ] at heq
          replace hEQ := Lib.hid hEQ
          have qA := S.hA
          have qB := S.hB
          have hfr := S.fr
          have hod : i' % 2 = 1 ∨ (¬ i' % 2 = 1 ∧ n' % 2 = 1 ∧ i' + 1 ≠ n') ∨ (¬ i' % 2 = 1 ∧ ¬ n' % 2 = 1) := by
            rw [alone, decide_eq_false_iff_not] at hal
            omega
          clear S hx HLx hxl lA' lB' cA cB hA' hB' hi2 hn2 hn' hi' hal
          generalize hc x = Xx at *
          generalize hc A = XA at *
          generalize hc B = XB at *
          generalize hc A' = XC at *
          generalize hc B' = XD at *
          go_upto_region 14 with fail
          refine wp_put fun W4 N4 => ?_
          have q15 := N4.new
          have hn1 := N4.ne qA
          have hn2 := N4.ne qB
          replace qA := N4.old qA
          replace qB := N4.old qB
          have F4 := hfr.trans' N4.fr
          clear N4 hfr hL1
          generalize wr.heap.size = g15 at *
          rcases hod with ho | ⟨ho, hp, hq⟩ | ⟨ho, hp⟩
          · have l2 : ((i' : Int) % 2 == 1) = true := by rw [beq_iff_eq]; omega
            replace HA1 := Lib.hid (fun W => HA1.out W ho)
            replace HB1 := Lib.hid (fun W => HB1.out W ho)
            clear HA2 HB2 ho
            go_upto_region 15 with fail
            refine wp_region_noPanic ?_
            refine wp_region_held_drew (S := (fun w' => w'.heap[g15]? = some (.cells Xx 28 (0, 0)) ∧ Fr F0 W0 w')) (by kernel_rfl) ?_ (fun hHeld => ?_)
            · ((try dsimp only) <;> (first | exact ⟨q15, F4.drew⟩ | exact hHeld | exact ⟨keep_fr f5 hHeld.1, hHeld.2.trans' f5⟩ | exact ⟨keep_row (Ne.symm hn1) hHeld.1, hHeld.2.setRow (fun h => absurd h hpa0) _⟩ | exact ⟨keep_row (Ne.symm hn2) hHeld.1, hHeld.2.setRow (fun h => absurd h hpb0) _⟩))
            refine rtake 0 ?_
            refine rtake 3 ?_
            refine wpAnyH_ready (rs := [1, 4]) (by kernel_rfl) (by simp) ?_
            refine AllReadyH.cons (o := ⟨_, _, _, _, _, _⟩) rfl (fun K hK => ?_) (AllReadyH.cons (o := ⟨_, _, _, _, _, _⟩) rfl (fun K hK => ?_) AllReadyH.nil)
            go_simp
            refine hK.out _ _ ?_ (fun hHeld => ?_)
            · ((try dsimp only) <;> (first | exact ⟨q15, F4.drew⟩ | exact hHeld | exact ⟨keep_fr f5 hHeld.1, hHeld.2.trans' f5⟩ | exact ⟨keep_row (Ne.symm hn1) hHeld.1, hHeld.2.setRow (fun h => absurd h hpa0) _⟩ | exact ⟨keep_row (Ne.symm hn2) hHeld.1, hHeld.2.setRow (fun h => absurd h hpb0) _⟩))
            clear hK K
            try (simp only [Act.put, List.setIfInBounds_toArray]; dsimp only [List.set_cons_zero, List.set_cons_succ])
            refine wpAnyH_ready (rs := [2, 4]) (by kernel_rfl) (by simp) ?_
            refine AllReadyH.cons (o := ⟨_, _, _, _, _, _⟩) rfl (fun K hK => ?_) (AllReadyH.cons (o := ⟨_, _, _, _, _, _⟩) rfl (fun K hK => ?_) AllReadyH.nil)
            go_simp
            ((with_reducible refine (HA1.out _).mono ?_); rintro e w5 ⟨rfl, f5⟩; have qA5 := keep_fr ((Fr.refl F0 W4).drew.trans' f5) qA; have qB5 := keep_fr ((Fr.refl F0 W4).drew.trans' f5) qB)
            refine hK.out _ _ ?_ (fun hHeld => ?_)
            · ((try dsimp only) <;> (first | exact ⟨q15, F4.drew⟩ | exact hHeld | exact ⟨keep_fr f5 hHeld.1, hHeld.2.trans' f5⟩ | exact ⟨keep_row (Ne.symm hn1) hHeld.1, hHeld.2.setRow (fun h => absurd h hpa0) _⟩ | exact ⟨keep_row (Ne.symm hn2) hHeld.1, hHeld.2.setRow (fun h => absurd h hpb0) _⟩))
            clear hK K
            try (simp only [Act.put, List.setIfInBounds_toArray]; dsimp only [List.set_cons_zero, List.set_cons_succ])
            refine wpAnyH_ready (rs := [4]) (by kernel_rfl) (by simp) ?_
            refine AllReadyH.cons (o := ⟨_, _, _, _, _, _⟩) rfl (fun K hK => ?_) AllReadyH.nil
            go_simp
            refine hK.out _ _ ?_ (fun hHeld => ?_)
            · ((try dsimp only) <;> (first | exact ⟨q15, F4.drew⟩ | exact hHeld | exact ⟨keep_fr f5 hHeld.1, hHeld.2.trans' f5⟩ | exact ⟨keep_row (Ne.symm hn1) hHeld.1, hHeld.2.setRow (fun h => absurd h hpa0) _⟩ | exact ⟨keep_row (Ne.symm hn2) hHeld.1, hHeld.2.setRow (fun h => absurd h hpb0) _⟩))
            clear hK K
            try (simp only [Act.put, List.setIfInBounds_toArray]; dsimp only [List.set_cons_zero, List.set_cons_succ])
            refine wpAnyH_ready (rs := [5]) (by kernel_rfl) (by simp) ?_
            refine AllReadyH.cons (o := ⟨_, _, _, _, _, _⟩) rfl (fun K hK => ?_) AllReadyH.nil
            go_simp
            ((with_reducible refine (HB1.out _).mono ?_); rintro e w6 ⟨rfl, f5⟩; have qA6 := keep_fr f5 qA5; have qB6 := keep_fr f5 qB5; have qB7 := keep_row (c := XC) hba qB6)
            refine hK.out _ _ ?_ (fun hHeld => ?_)
            · ((try dsimp only) <;> (first | exact ⟨q15, F4.drew⟩ | exact hHeld | exact ⟨keep_fr f5 hHeld.1, hHeld.2.trans' f5⟩ | exact ⟨keep_row (Ne.symm hn1) hHeld.1, hHeld.2.setRow (fun h => absurd h hpa0) _⟩ | exact ⟨keep_row (Ne.symm hn2) hHeld.1, hHeld.2.setRow (fun h => absurd h hpb0) _⟩))
            clear hK K
            try (simp only [Act.put, List.setIfInBounds_toArray]; dsimp only [List.set_cons_zero, List.set_cons_succ])
            refine wpAnyH_ready (rs := [6]) (by kernel_rfl) (by simp) ?_
            refine AllReadyH.cons (o := ⟨_, _, _, _, _, _⟩) rfl (fun K hK => ?_) AllReadyH.nil
            go_simp
            refine hK.out _ _ ?_ (fun hHeld => ?_)
            · ((try dsimp only) <;> (first | exact ⟨q15, F4.drew⟩ | exact hHeld | exact ⟨keep_fr f5 hHeld.1, hHeld.2.trans' f5⟩ | exact ⟨keep_row (Ne.symm hn1) hHeld.1, hHeld.2.setRow (fun h => absurd h hpa0) _⟩ | exact ⟨keep_row (Ne.symm hn2) hHeld.1, hHeld.2.setRow (fun h => absurd h hpb0) _⟩))
            clear hK K
            try (simp only [Act.put, List.setIfInBounds_toArray]; dsimp only [List.set_cons_zero, List.set_cons_succ])
            refine wpAnyH_ready (rs := [7]) (by kernel_rfl) (by simp) ?_
            refine AllReadyH.cons (o := ⟨_, _, _, _, _, _⟩) rfl (fun K hK => ?_) AllReadyH.nil
            go_simp
            refine hK.out _ _ ?_ (fun hHeld => ?_)
            · ((try dsimp only) <;> (first | exact ⟨q15, F4.drew⟩ | exact hHeld | exact ⟨keep_fr f5 hHeld.1, hHeld.2.trans' f5⟩ | exact ⟨keep_row (Ne.symm hn1) hHeld.1, hHeld.2.setRow (fun h => absurd h hpa0) _⟩ | exact ⟨keep_row (Ne.symm hn2) hHeld.1, hHeld.2.setRow (fun h => absurd h hpb0) _⟩))
            clear hK K
            try (simp only [Act.put, List.setIfInBounds_toArray]; dsimp only [List.set_cons_zero, List.set_cons_succ])
            refine wpAnyH_done (by kernel_rfl) ?_ _
            refine NoPanic.normal ?_
            rotate_left
            go_simp
            refine hK.out _ _ ?_ (fun hHeld => ?_)
            · ((try dsimp only) <;> (first | exact ⟨q15, F4.drew⟩ | exact hHeld | exact ⟨keep_fr f5 hHeld.1, hHeld.2.trans' f5⟩ | exact ⟨keep_row (Ne.symm hn1) hHeld.1, hHeld.2.setRow (fun h => absurd h hpa0) _⟩ | exact ⟨keep_row (Ne.symm hn2) hHeld.1, hHeld.2.setRow (fun h => absurd h hpb0) _⟩))
            clear hK K
            try (simp only [Act.put, List.setIfInBounds_toArray]; dsimp only [List.set_cons_zero, List.set_cons_succ])
            refine wpAnyH_ready (rs := [2]) (by kernel_rfl) (by simp) ?_
            refine AllReadyH.cons (o := ⟨_, _, _, _, _, _⟩) rfl (fun K hK => ?_) AllReadyH.nil
            go_simp
            ((with_reducible refine (HA1.out _).mono ?_); rintro e w5 ⟨rfl, f5⟩; have qA5 := keep_fr ((Fr.refl F0 W4).drew.trans' f5) qA; have qB5 := keep_fr ((Fr.refl F0 W4).drew.trans' f5) qB)
            refine hK.out _ _ ?_ (fun hHeld => ?_)
            · ((try dsimp only) <;> (first | exact ⟨q15, F4.drew⟩ | exact hHeld | exact ⟨keep_fr f5 hHeld.1, hHeld.2.trans' f5⟩ | exact ⟨keep_row (Ne.symm hn1) hHeld.1, hHeld.2.setRow (fun h => absurd h hpa0) _⟩ | exact ⟨keep_row (Ne.symm hn2) hHeld.1, hHeld.2.setRow (fun h => absurd h hpb0) _⟩))
            clear hK K
            try (simp only [Act.put, List.setIfInBounds_toArray]; dsimp only [List.set_cons_zero, List.set_cons_succ])
            refine wpAnyH_ready (rs := [5]) (by kernel_rfl) (by simp) ?_
            refine AllReadyH.cons (o := ⟨_, _, _, _, _, _⟩) rfl (fun K hK => ?_) AllReadyH.nil
            go_simp
            ((with_reducible refine (HB1.out _).mono ?_); rintro e w6 ⟨rfl, f5⟩; have qA6 := keep_fr f5 qA5; have qB6 := keep_fr f5 qB5; have qB7 := keep_row (c := XC) hba qB6)
            refine hK.out _ _ ?_ (fun hHeld => ?_)
            · ((try dsimp only) <;> (first | exact ⟨q15, F4.drew⟩ | exact hHeld | exact ⟨keep_fr f5 hHeld.1, hHeld.2.trans' f5⟩ | exact ⟨keep_row (Ne.symm hn1) hHeld.1, hHeld.2.setRow (fun h => absurd h hpa0) _⟩ | exact ⟨keep_row (Ne.symm hn2) hHeld.1, hHeld.2.setRow (fun h => absurd h hpb0) _⟩))
            clear hK K
            try (simp only [Act.put, List.setIfInBounds_toArray]; dsimp only [List.set_cons_zero, List.set_cons_succ])
            refine wpAnyH_ready (rs := [6]) (by kernel_rfl) (by simp) ?_
            refine AllReadyH.cons (o := ⟨_, _, _, _, _, _⟩) rfl (fun K hK => ?_) AllReadyH.nil
            go_simp
            refine hK.out _ _ ?_ (fun hHeld => ?_)
            · ((try dsimp only) <;> (first | exact ⟨q15, F4.drew⟩ | exact hHeld | exact ⟨keep_fr f5 hHeld.1, hHeld.2.trans' f5⟩ | exact ⟨keep_row (Ne.symm hn1) hHeld.1, hHeld.2.setRow (fun h => absurd h hpa0) _⟩ | exact ⟨keep_row (Ne.symm hn2) hHeld.1, hHeld.2.setRow (fun h => absurd h hpb0) _⟩))
            clear hK K
            try (simp only [Act.put, List.setIfInBounds_toArray]; dsimp only [List.set_cons_zero, List.set_cons_succ])
            refine wpAnyH_ready (rs := [7]) (by kernel_rfl) (by simp) ?_
            refine AllReadyH.cons (o := ⟨_, _, _, _, _, _⟩) rfl (fun K hK => ?_) AllReadyH.nil
            go_simp
            refine hK.out _ _ ?_ (fun hHeld => ?_)
            · ((try dsimp only) <;> (first | exact ⟨q15, F4.drew⟩ | exact hHeld | exact ⟨keep_fr f5 hHeld.1, hHeld.2.trans' f5⟩ | exact ⟨keep_row (Ne.symm hn1) hHeld.1, hHeld.2.setRow (fun h => absurd h hpa0) _⟩ | exact ⟨keep_row (Ne.symm hn2) hHeld.1, hHeld.2.setRow (fun h => absurd h hpb0) _⟩))
            clear hK K
            try (simp only [Act.put, List.setIfInBounds_toArray]; dsimp only [List.set_cons_zero, List.set_cons_succ])
            refine wpAnyH_done (by kernel_rfl) ?_ _
            refine NoPanic.normal ?_
            rotate_left
            go_simp
            refine hK.out _ _ ?_ (fun hHeld => ?_)
            · ((try dsimp only) <;> (first | exact ⟨q15, F4.drew⟩ | exact hHeld | exact ⟨keep_fr f5 hHeld.1, hHeld.2.trans' f5⟩ | exact ⟨keep_row (Ne.symm hn1) hHeld.1, hHeld.2.setRow (fun h => absurd h hpa0) _⟩ | exact ⟨keep_row (Ne.symm hn2) hHeld.1, hHeld.2.setRow (fun h => absurd h hpb0) _⟩))
            clear hK K
            try (simp only [Act.put, List.setIfInBounds_toArray]; dsimp only [List.set_cons_zero, List.set_cons_succ])
            refine wpAnyH_ready (rs := [1]) (by kernel_rfl) (by simp) ?_
            refine AllReadyH.cons (o := ⟨_, _, _, _, _, _⟩) rfl (fun K hK => ?_) AllReadyH.nil
            go_simp
            refine hK.out _ _ ?_ (fun hHeld => ?_)
            · ((try dsimp only) <;> (first | exact ⟨q15, F4.drew⟩ | exact hHeld | exact ⟨keep_fr f5 hHeld.1, hHeld.2.trans' f5⟩ | exact ⟨keep_row (Ne.symm hn1) hHeld.1, hHeld.2.setRow (fun h => absurd h hpa0) _⟩ | exact ⟨keep_row (Ne.symm hn2) hHeld.1, hHeld.2.setRow (fun h => absurd h hpb0) _⟩))
            clear hK K
            try (simp only [Act.put, List.setIfInBounds_toArray]; dsimp only [List.set_cons_zero, List.set_cons_succ])
            refine wpAnyH_ready (rs := [2]) (by kernel_rfl) (by simp) ?_
            refine AllReadyH.cons (o := ⟨_, _, _, _, _, _⟩) rfl (fun K hK => ?_) AllReadyH.nil
            go_simp
            ((with_reducible refine (HA1.out _).mono ?_); rintro e w5 ⟨rfl, f5⟩; have qA5 := keep_fr ((Fr.refl F0 W4).drew.trans' f5) qA; have qB5 := keep_fr ((Fr.refl F0 W4).drew.trans' f5) qB)
            refine hK.out _ _ ?_ (fun hHeld => ?_)
            · ((try dsimp only) <;> (first | exact ⟨q15, F4.drew⟩ | exact hHeld | exact ⟨keep_fr f5 hHeld.1, hHeld.2.trans' f5⟩ | exact ⟨keep_row (Ne.symm hn1) hHeld.1, hHeld.2.setRow (fun h => absurd h hpa0) _⟩ | exact ⟨keep_row (Ne.symm hn2) hHeld.1, hHeld.2.setRow (fun h => absurd h hpb0) _⟩))
            clear hK K
            try (simp only [Act.put, List.setIfInBounds_toArray]; dsimp only [List.set_cons_zero, List.set_cons_succ])
            refine wpAnyH_ready (rs := [5]) (by kernel_rfl) (by simp) ?_
            refine AllReadyH.cons (o := ⟨_, _, _, _, _, _⟩) rfl (fun K hK => ?_) AllReadyH.nil
            go_simp
            ((with_reducible refine (HB1.out _).mono ?_); rintro e w6 ⟨rfl, f5⟩; have qA6 := keep_fr f5 qA5; have qB6 := keep_fr f5 qB5; have qB7 := keep_row (c := XC) hba qB6)
            refine hK.out _ _ ?_ (fun hHeld => ?_)
            · ((try dsimp only) <;> (first | exact ⟨q15, F4.drew⟩ | exact hHeld | exact ⟨keep_fr f5 hHeld.1, hHeld.2.trans' f5⟩ | exact ⟨keep_row (Ne.symm hn1) hHeld.1, hHeld.2.setRow (fun h => absurd h hpa0) _⟩ | exact ⟨keep_row (Ne.symm hn2) hHeld.1, hHeld.2.setRow (fun h => absurd h hpb0) _⟩))
            clear hK K
            try (simp only [Act.put, List.setIfInBounds_toArray]; dsimp only [List.set_cons_zero, List.set_cons_succ])
            refine wpAnyH_ready (rs := [6]) (by kernel_rfl) (by simp) ?_
            refine AllReadyH.cons (o := ⟨_, _, _, _, _, _⟩) rfl (fun K hK => ?_) AllReadyH.nil
            go_simp
            refine hK.out _ _ ?_ (fun hHeld => ?_)
            · ((try dsimp only) <;> (first | exact ⟨q15, F4.drew⟩ | exact hHeld | exact ⟨keep_fr f5 hHeld.1, hHeld.2.trans' f5⟩ | exact ⟨keep_row (Ne.symm hn1) hHeld.1, hHeld.2.setRow (fun h => absurd h hpa0) _⟩ | exact ⟨keep_row (Ne.symm hn2) hHeld.1, hHeld.2.setRow (fun h => absurd h hpb0) _⟩))
            clear hK K
            try (simp only [Act.put, List.setIfInBounds_toArray]; dsimp only [List.set_cons_zero, List.set_cons_succ])
            refine wpAnyH_ready (rs := [7]) (by kernel_rfl) (by simp) ?_
            refine AllReadyH.cons (o := ⟨_, _, _, _, _, _⟩) rfl (fun K hK => ?_) AllReadyH.nil
            go_simp
            refine hK.out _ _ ?_ (fun hHeld => ?_)
            · ((try dsimp only) <;> (first | exact ⟨q15, F4.drew⟩ | exact hHeld | exact ⟨keep_fr f5 hHeld.1, hHeld.2.trans' f5⟩ | exact ⟨keep_row (Ne.symm hn1) hHeld.1, hHeld.2.setRow (fun h => absurd h hpa0) _⟩ | exact ⟨keep_row (Ne.symm hn2) hHeld.1, hHeld.2.setRow (fun h => absurd h hpb0) _⟩))
            clear hK K
            try (simp only [Act.put, List.setIfInBounds_toArray]; dsimp only [List.set_cons_zero, List.set_cons_succ])
            refine wpAnyH_done (by kernel_rfl) ?_ _
            refine NoPanic.normal ?_
            rotate_left
            all_goals
              have hA9 : ((w6.setRow pa XC).setRow pb XD).heap[pa]? = some (.cells XC 27 (0, 0)) := keep_row hab (new_row qA6)
              have hB9 : ((w6.setRow pa XC).setRow pb XD).heap[pb]? = some (.cells XD 27 (0, 0)) := new_row qB7
              have F9 := hHeld.2
              clear hHeld qA6 qB6 qB7 qA5 qB5 qA qB q15 f5 F4 HA1 HB1
              generalize (w6.setRow pa XC).setRow pb XD = W9 at *
              cases EQ with
              | false =>
                have hkw := Lib.hid (show wrap64 ((k : Int) + 1) = ((k + 1 : Nat) : Int) by have := HH.out.2.2.2.2; unfold wrap64; omega)
                have hK9 := Lib.hid (HK.out W9 (of_decide_eq_false hEQ.out.symm) hA9 hB9 F9)
                clear HK hEQ
                go_wp2
                go_roundw
                case rel => exact ⟨k + 1, i2, n2, A', B', by omega, by first | rfl | go_num, by first | rfl | go_num, congrArg (Value.int IntKind.i64) hkw.out, hK9.out⟩
                case measure => exact pv_meas R k hlt HH.out.2.2.2.2
              | true =>
                clear HK hEQ
                go_wp2
                go_ret
                exact ⟨rfl, HF.out _ F9⟩
          · have l2 : ((i' : Int) % 2 == 1) = false := by rw [beq_eq_false_iff_ne]; omega
            have l3 : ((n' : Int) % 2 == 1) = true := by rw [beq_iff_eq]; omega
            have l4 : ((i' : Int) == (n' : Int) - 1) = false := by rw [beq_eq_false_iff_ne]; omega
            clear hp hq
            replace HA2 := Lib.hid (fun W => HA2.out W ho)
            replace HB2 := Lib.hid (fun W => HB2.out W ho)
            clear HA1 HB1 ho
            go_upto_region 18 with fail
            refine wp_region_noPanic ?_
            refine wp_region_held_drew (S := (fun w' => w'.heap[g15]? = some (.cells Xx 28 (0, 0)) ∧ Fr F0 W0 w')) (by kernel_rfl) ?_ (fun hHeld => ?_)
            · ((try dsimp only) <;> (first | exact ⟨q15, F4.drew⟩ | exact hHeld | exact ⟨keep_fr f5 hHeld.1, hHeld.2.trans' f5⟩ | exact ⟨keep_row (Ne.symm hn1) hHeld.1, hHeld.2.setRow (fun h => absurd h hpa0) _⟩ | exact ⟨keep_row (Ne.symm hn2) hHeld.1, hHeld.2.setRow (fun h => absurd h hpb0) _⟩))
            refine rtake 1 ?_
            refine rtake 4 ?_
            refine wpAnyH_ready (rs := [0, 3]) (by kernel_rfl) (by simp) ?_
            refine AllReadyH.cons (o := ⟨_, _, _, _, _, _⟩) rfl (fun K hK => ?_) (AllReadyH.cons (o := ⟨_, _, _, _, _, _⟩) rfl (fun K hK => ?_) AllReadyH.nil)
            go_simp
            refine hK.out _ _ ?_ (fun hHeld => ?_)
            · ((try dsimp only) <;> (first | exact ⟨q15, F4.drew⟩ | exact hHeld | exact ⟨keep_fr f5 hHeld.1, hHeld.2.trans' f5⟩ | exact ⟨keep_row (Ne.symm hn1) hHeld.1, hHeld.2.setRow (fun h => absurd h hpa0) _⟩ | exact ⟨keep_row (Ne.symm hn2) hHeld.1, hHeld.2.setRow (fun h => absurd h hpb0) _⟩))
            clear hK K
            try (simp only [Act.put, List.setIfInBounds_toArray]; dsimp only [List.set_cons_zero, List.set_cons_succ])
            refine wpAnyH_ready (rs := [2, 3]) (by kernel_rfl) (by simp) ?_
            refine AllReadyH.cons (o := ⟨_, _, _, _, _, _⟩) rfl (fun K hK => ?_) (AllReadyH.cons (o := ⟨_, _, _, _, _, _⟩) rfl (fun K hK => ?_) AllReadyH.nil)
            go_simp
            ((with_reducible refine (HA2.out _).mono ?_); rintro e w5 ⟨rfl, f5⟩; have qA5 := keep_fr ((Fr.refl F0 W4).drew.trans' f5) qA; have qB5 := keep_fr ((Fr.refl F0 W4).drew.trans' f5) qB)
            refine hK.out _ _ ?_ (fun hHeld => ?_)
            · ((try dsimp only) <;> (first | exact ⟨q15, F4.drew⟩ | exact hHeld | exact ⟨keep_fr f5 hHeld.1, hHeld.2.trans' f5⟩ | exact ⟨keep_row (Ne.symm hn1) hHeld.1, hHeld.2.setRow (fun h => absurd h hpa0) _⟩ | exact ⟨keep_row (Ne.symm hn2) hHeld.1, hHeld.2.setRow (fun h => absurd h hpb0) _⟩))
            clear hK K
            try (simp only [Act.put, List.setIfInBounds_toArray]; dsimp only [List.set_cons_zero, List.set_cons_succ])
            refine wpAnyH_ready (rs := [3]) (by kernel_rfl) (by simp) ?_
            refine AllReadyH.cons (o := ⟨_, _, _, _, _, _⟩) rfl (fun K hK => ?_) AllReadyH.nil
            go_simp
            refine hK.out _ _ ?_ (fun hHeld => ?_)
            · ((try dsimp only) <;> (first | exact ⟨q15, F4.drew⟩ | exact hHeld | exact ⟨keep_fr f5 hHeld.1, hHeld.2.trans' f5⟩ | exact ⟨keep_row (Ne.symm hn1) hHeld.1, hHeld.2.setRow (fun h => absurd h hpa0) _⟩ | exact ⟨keep_row (Ne.symm hn2) hHeld.1, hHeld.2.setRow (fun h => absurd h hpb0) _⟩))
            clear hK K
            try (simp only [Act.put, List.setIfInBounds_toArray]; dsimp only [List.set_cons_zero, List.set_cons_succ])
            refine wpAnyH_ready (rs := [5]) (by kernel_rfl) (by simp) ?_
            refine AllReadyH.cons (o := ⟨_, _, _, _, _, _⟩) rfl (fun K hK => ?_) AllReadyH.nil
            go_simp
            ((with_reducible refine (HB2.out _).mono ?_); rintro e w6 ⟨rfl, f5⟩; have qA6 := keep_fr f5 qA5; have qB6 := keep_fr f5 qB5; have qB7 := keep_row (c := XC) hba qB6)
            refine hK.out _ _ ?_ (fun hHeld => ?_)
            · ((try dsimp only) <;> (first | exact ⟨q15, F4.drew⟩ | exact hHeld | exact ⟨keep_fr f5 hHeld.1, hHeld.2.trans' f5⟩ | exact ⟨keep_row (Ne.symm hn1) hHeld.1, hHeld.2.setRow (fun h => absurd h hpa0) _⟩ | exact ⟨keep_row (Ne.symm hn2) hHeld.1, hHeld.2.setRow (fun h => absurd h hpb0) _⟩))
            clear hK K
            try (simp only [Act.put, List.setIfInBounds_toArray]; dsimp only [List.set_cons_zero, List.set_cons_succ])
            refine wpAnyH_ready (rs := [6]) (by kernel_rfl) (by simp) ?_
            refine AllReadyH.cons (o := ⟨_, _, _, _, _, _⟩) rfl (fun K hK => ?_) AllReadyH.nil
            go_simp
            refine hK.out _ _ ?_ (fun hHeld => ?_)
            · ((try dsimp only) <;> (first | exact ⟨q15, F4.drew⟩ | exact hHeld | exact ⟨keep_fr f5 hHeld.1, hHeld.2.trans' f5⟩ | exact ⟨keep_row (Ne.symm hn1) hHeld.1, hHeld.2.setRow (fun h => absurd h hpa0) _⟩ | exact ⟨keep_row (Ne.symm hn2) hHeld.1, hHeld.2.setRow (fun h => absurd h hpb0) _⟩))
            clear hK K
            try (simp only [Act.put, List.setIfInBounds_toArray]; dsimp only [List.set_cons_zero, List.set_cons_succ])
            refine wpAnyH_ready (rs := [7]) (by kernel_rfl) (by simp) ?_
            refine AllReadyH.cons (o := ⟨_, _, _, _, _, _⟩) rfl (fun K hK => ?_) AllReadyH.nil
            go_simp
            refine hK.out _ _ ?_ (fun hHeld => ?_)
            · ((try dsimp only) <;> (first | exact ⟨q15, F4.drew⟩ | exact hHeld | exact ⟨keep_fr f5 hHeld.1, hHeld.2.trans' f5⟩ | exact ⟨keep_row (Ne.symm hn1) hHeld.1, hHeld.2.setRow (fun h => absurd h hpa0) _⟩ | exact ⟨keep_row (Ne.symm hn2) hHeld.1, hHeld.2.setRow (fun h => absurd h hpb0) _⟩))
            clear hK K
            try (simp only [Act.put, List.setIfInBounds_toArray]; dsimp only [List.set_cons_zero, List.set_cons_succ])
            refine wpAnyH_done (by kernel_rfl) ?_ _
            refine NoPanic.normal ?_
            rotate_left
            go_simp
            refine hK.out _ _ ?_ (fun hHeld => ?_)
            · ((try dsimp only) <;> (first | exact ⟨q15, F4.drew⟩ | exact hHeld | exact ⟨keep_fr f5 hHeld.1, hHeld.2.trans' f5⟩ | exact ⟨keep_row (Ne.symm hn1) hHeld.1, hHeld.2.setRow (fun h => absurd h hpa0) _⟩ | exact ⟨keep_row (Ne.symm hn2) hHeld.1, hHeld.2.setRow (fun h => absurd h hpb0) _⟩))
            clear hK K
            try (simp only [Act.put, List.setIfInBounds_toArray]; dsimp only [List.set_cons_zero, List.set_cons_succ])
            refine wpAnyH_ready (rs := [2]) (by kernel_rfl) (by simp) ?_
            refine AllReadyH.cons (o := ⟨_, _, _, _, _, _⟩) rfl (fun K hK => ?_) AllReadyH.nil
            go_simp
            ((with_reducible refine (HA2.out _).mono ?_); rintro e w5 ⟨rfl, f5⟩; have qA5 := keep_fr ((Fr.refl F0 W4).drew.trans' f5) qA; have qB5 := keep_fr ((Fr.refl F0 W4).drew.trans' f5) qB)
            refine hK.out _ _ ?_ (fun hHeld => ?_)
            · ((try dsimp only) <;> (first | exact ⟨q15, F4.drew⟩ | exact hHeld | exact ⟨keep_fr f5 hHeld.1, hHeld.2.trans' f5⟩ | exact ⟨keep_row (Ne.symm hn1) hHeld.1, hHeld.2.setRow (fun h => absurd h hpa0) _⟩ | exact ⟨keep_row (Ne.symm hn2) hHeld.1, hHeld.2.setRow (fun h => absurd h hpb0) _⟩))
            clear hK K
            try (simp only [Act.put, List.setIfInBounds_toArray]; dsimp only [List.set_cons_zero, List.set_cons_succ])
            refine wpAnyH_ready (rs := [5]) (by kernel_rfl) (by simp) ?_
            refine AllReadyH.cons (o := ⟨_, _, _, _, _, _⟩) rfl (fun K hK => ?_) AllReadyH.nil
            go_simp
            ((with_reducible refine (HB2.out _).mono ?_); rintro e w6 ⟨rfl, f5⟩; have qA6 := keep_fr f5 qA5; have qB6 := keep_fr f5 qB5; have qB7 := keep_row (c := XC) hba qB6)
            refine hK.out _ _ ?_ (fun hHeld => ?_)
            · ((try dsimp only) <;> (first | exact ⟨q15, F4.drew⟩ | exact hHeld | exact ⟨keep_fr f5 hHeld.1, hHeld.2.trans' f5⟩ | exact ⟨keep_row (Ne.symm hn1) hHeld.1, hHeld.2.setRow (fun h => absurd h hpa0) _⟩ | exact ⟨keep_row (Ne.symm hn2) hHeld.1, hHeld.2.setRow (fun h => absurd h hpb0) _⟩))
            clear hK K
            try (simp only [Act.put, List.setIfInBounds_toArray]; dsimp only [List.set_cons_zero, List.set_cons_succ])
            refine wpAnyH_ready (rs := [6]) (by kernel_rfl) (by simp) ?_
            refine AllReadyH.cons (o := ⟨_, _, _, _, _, _⟩) rfl (fun K hK => ?_) AllReadyH.nil
            go_simp
            refine hK.out _ _ ?_ (fun hHeld => ?_)
            · ((try dsimp only) <;> (first | exact ⟨q15, F4.drew⟩ | exact hHeld | exact ⟨keep_fr f5 hHeld.1, hHeld.2.trans' f5⟩ | exact ⟨keep_row (Ne.symm hn1) hHeld.1, hHeld.2.setRow (fun h => absurd h hpa0) _⟩ | exact ⟨keep_row (Ne.symm hn2) hHeld.1, hHeld.2.setRow (fun h => absurd h hpb0) _⟩))
            clear hK K
            try (simp only [Act.put, List.setIfInBounds_toArray]; dsimp only [List.set_cons_zero, List.set_cons_succ])
            refine wpAnyH_ready (rs := [7]) (by kernel_rfl) (by simp) ?_
            refine AllReadyH.cons (o := ⟨_, _, _, _, _, _⟩) rfl (fun K hK => ?_) AllReadyH.nil
            go_simp
            refine hK.out _ _ ?_ (fun hHeld => ?_)
            · ((try dsimp only) <;> (first | exact ⟨q15, F4.drew⟩ | exact hHeld | exact ⟨keep_fr f5 hHeld.1, hHeld.2.trans' f5⟩ | exact ⟨keep_row (Ne.symm hn1) hHeld.1, hHeld.2.setRow (fun h => absurd h hpa0) _⟩ | exact ⟨keep_row (Ne.symm hn2) hHeld.1, hHeld.2.setRow (fun h => absurd h hpb0) _⟩))
            clear hK K
            try (simp only [Act.put, List.setIfInBounds_toArray]; dsimp only [List.set_cons_zero, List.set_cons_succ])
            refine wpAnyH_done (by kernel_rfl) ?_ _
            refine NoPanic.normal ?_
            rotate_left
            go_simp
            refine hK.out _ _ ?_ (fun hHeld => ?_)
            · ((try dsimp only) <;> (first | exact ⟨q15, F4.drew⟩ | exact hHeld | exact ⟨keep_fr f5 hHeld.1, hHeld.2.trans' f5⟩ | exact ⟨keep_row (Ne.symm hn1) hHeld.1, hHeld.2.setRow (fun h => absurd h hpa0) _⟩ | exact ⟨keep_row (Ne.symm hn2) hHeld.1, hHeld.2.setRow (fun h => absurd h hpb0) _⟩))
            clear hK K
            try (simp only [Act.put, List.setIfInBounds_toArray]; dsimp only [List.set_cons_zero, List.set_cons_succ])
            refine wpAnyH_ready (rs := [0]) (by kernel_rfl) (by simp) ?_
            refine AllReadyH.cons (o := ⟨_, _, _, _, _, _⟩) rfl (fun K hK => ?_) AllReadyH.nil
            go_simp
            refine hK.out _ _ ?_ (fun hHeld => ?_)
            · ((try dsimp only) <;> (first | exact ⟨q15, F4.drew⟩ | exact hHeld | exact ⟨keep_fr f5 hHeld.1, hHeld.2.trans' f5⟩ | exact ⟨keep_row (Ne.symm hn1) hHeld.1, hHeld.2.setRow (fun h => absurd h hpa0) _⟩ | exact ⟨keep_row (Ne.symm hn2) hHeld.1, hHeld.2.setRow (fun h => absurd h hpb0) _⟩))
            clear hK K
            try (simp only [Act.put, List.setIfInBounds_toArray]; dsimp only [List.set_cons_zero, List.set_cons_succ])
            refine wpAnyH_ready (rs := [2]) (by kernel_rfl) (by simp) ?_
            refine AllReadyH.cons (o := ⟨_, _, _, _, _, _⟩) rfl (fun K hK => ?_) AllReadyH.nil
            go_simp
            ((with_reducible refine (HA2.out _).mono ?_); rintro e w5 ⟨rfl, f5⟩; have qA5 := keep_fr ((Fr.refl F0 W4).drew.trans' f5) qA; have qB5 := keep_fr ((Fr.refl F0 W4).drew.trans' f5) qB)
            refine hK.out _ _ ?_ (fun hHeld => ?_)
            · ((try dsimp only) <;> (first | exact ⟨q15, F4.drew⟩ | exact hHeld | exact ⟨keep_fr f5 hHeld.1, hHeld.2.trans' f5⟩ | exact ⟨keep_row (Ne.symm hn1) hHeld.1, hHeld.2.setRow (fun h => absurd h hpa0) _⟩ | exact ⟨keep_row (Ne.symm hn2) hHeld.1, hHeld.2.setRow (fun h => absurd h hpb0) _⟩))
            clear hK K
            try (simp only [Act.put, List.setIfInBounds_toArray]; dsimp only [List.set_cons_zero, List.set_cons_succ])
            refine wpAnyH_ready (rs := [5]) (by kernel_rfl) (by simp) ?_
            refine AllReadyH.cons (o := ⟨_, _, _, _, _, _⟩) rfl (fun K hK => ?_) AllReadyH.nil
            go_simp
            ((with_reducible refine (HB2.out _).mono ?_); rintro e w6 ⟨rfl, f5⟩; have qA6 := keep_fr f5 qA5; have qB6 := keep_fr f5 qB5; have qB7 := keep_row (c := XC) hba qB6)
            refine hK.out _ _ ?_ (fun hHeld => ?_)
            · ((try dsimp only) <;> (first | exact ⟨q15, F4.drew⟩ | exact hHeld | exact ⟨keep_fr f5 hHeld.1, hHeld.2.trans' f5⟩ | exact ⟨keep_row (Ne.symm hn1) hHeld.1, hHeld.2.setRow (fun h => absurd h hpa0) _⟩ | exact ⟨keep_row (Ne.symm hn2) hHeld.1, hHeld.2.setRow (fun h => absurd h hpb0) _⟩))
            clear hK K
            try (simp only [Act.put, List.setIfInBounds_toArray]; dsimp only [List.set_cons_zero, List.set_cons_succ])
            refine wpAnyH_ready (rs := [6]) (by kernel_rfl) (by simp) ?_
            refine AllReadyH.cons (o := ⟨_, _, _, _, _, _⟩) rfl (fun K hK => ?_) AllReadyH.nil
            go_simp
            refine hK.out _ _ ?_ (fun hHeld => ?_)
            · ((try dsimp only) <;> (first | exact ⟨q15, F4.drew⟩ | exact hHeld | exact ⟨keep_fr f5 hHeld.1, hHeld.2.trans' f5⟩ | exact ⟨keep_row (Ne.symm hn1) hHeld.1, hHeld.2.setRow (fun h => absurd h hpa0) _⟩ | exact ⟨keep_row (Ne.symm hn2) hHeld.1, hHeld.2.setRow (fun h => absurd h hpb0) _⟩))
            clear hK K
            try (simp only [Act.put, List.setIfInBounds_toArray]; dsimp only [List.set_cons_zero, List.set_cons_succ])
            refine wpAnyH_ready (rs := [7]) (by kernel_rfl) (by simp) ?_
            refine AllReadyH.cons (o := ⟨_, _, _, _, _, _⟩) rfl (fun K hK => ?_) AllReadyH.nil
            go_simp
            refine hK.out _ _ ?_ (fun hHeld => ?_)
            · ((try dsimp only) <;> (first | exact ⟨q15, F4.drew⟩ | exact hHeld | exact ⟨keep_fr f5 hHeld.1, hHeld.2.trans' f5⟩ | exact ⟨keep_row (Ne.symm hn1) hHeld.1, hHeld.2.setRow (fun h => absurd h hpa0) _⟩ | exact ⟨keep_row (Ne.symm hn2) hHeld.1, hHeld.2.setRow (fun h => absurd h hpb0) _⟩))
            clear hK K
            try (simp only [Act.put, List.setIfInBounds_toArray]; dsimp only [List.set_cons_zero, List.set_cons_succ])
            refine wpAnyH_done (by kernel_rfl) ?_ _
            refine NoPanic.normal ?_
            rotate_left
            all_goals
              have hA9 : ((w6.setRow pa XC).setRow pb XD).heap[pa]? = some (.cells XC 27 (0, 0)) := keep_row hab (new_row qA6)
              have hB9 : ((w6.setRow pa XC).setRow pb XD).heap[pb]? = some (.cells XD 27 (0, 0)) := new_row qB7
              have F9 := hHeld.2
              clear hHeld qA6 qB6 qB7 qA5 qB5 qA qB q15 f5 F4 HA2 HB2
              generalize (w6.setRow pa XC).setRow pb XD = W9 at *
              cases EQ with
              | false =>
                have hkw := Lib.hid (show wrap64 ((k : Int) + 1) = ((k + 1 : Nat) : Int) by have := HH.out.2.2.2.2; unfold wrap64; omega)
                have hK9 := Lib.hid (HK.out W9 (of_decide_eq_false hEQ.out.symm) hA9 hB9 F9)
                clear HK hEQ
                go_wp2
                go_roundw
                case rel => exact ⟨k + 1, i2, n2, A', B', by omega, by first | rfl | go_num, by first | rfl | go_num, congrArg (Value.int IntKind.i64) hkw.out, hK9.out⟩
                case measure => exact pv_meas R k hlt HH.out.2.2.2.2
              | true =>
                clear HK hEQ
                go_wp2
                go_ret
                exact ⟨rfl, HF.out _ F9⟩
          · have l2 : ((i' : Int) % 2 == 1) = false := by rw [beq_eq_false_iff_ne]; omega
            have l3 : ((n' : Int) % 2 == 1) = false := by rw [beq_eq_false_iff_ne]; omega
            clear hp
            replace HA2 := Lib.hid (fun W => HA2.out W ho)
            replace HB2 := Lib.hid (fun W => HB2.out W ho)
            clear HA1 HB1 ho
            go_upto_region 18 with fail
            refine wp_region_noPanic ?_
            refine wp_region_held_drew (S := (fun w' => w'.heap[g15]? = some (.cells Xx 28 (0, 0)) ∧ Fr F0 W0 w')) (by kernel_rfl) ?_ (fun hHeld => ?_)
            · ((try dsimp only) <;> (first | exact ⟨q15, F4.drew⟩ | exact hHeld | exact ⟨keep_fr f5 hHeld.1, hHeld.2.trans' f5⟩ | exact ⟨keep_row (Ne.symm hn1) hHeld.1, hHeld.2.setRow (fun h => absurd h hpa0) _⟩ | exact ⟨keep_row (Ne.symm hn2) hHeld.1, hHeld.2.setRow (fun h => absurd h hpb0) _⟩))
            refine rtake 1 ?_
            refine rtake 4 ?_
            refine wpAnyH_ready (rs := [0, 3]) (by kernel_rfl) (by simp) ?_
            refine AllReadyH.cons (o := ⟨_, _, _, _, _, _⟩) rfl (fun K hK => ?_) (AllReadyH.cons (o := ⟨_, _, _, _, _, _⟩) rfl (fun K hK => ?_) AllReadyH.nil)
            go_simp
            refine hK.out _ _ ?_ (fun hHeld => ?_)
            · ((try dsimp only) <;> (first | exact ⟨q15, F4.drew⟩ | exact hHeld | exact ⟨keep_fr f5 hHeld.1, hHeld.2.trans' f5⟩ | exact ⟨keep_row (Ne.symm hn1) hHeld.1, hHeld.2.setRow (fun h => absurd h hpa0) _⟩ | exact ⟨keep_row (Ne.symm hn2) hHeld.1, hHeld.2.setRow (fun h => absurd h hpb0) _⟩))
            clear hK K
            try (simp only [Act.put, List.setIfInBounds_toArray]; dsimp only [List.set_cons_zero, List.set_cons_succ])
            refine wpAnyH_ready (rs := [2, 3]) (by kernel_rfl) (by simp) ?_
            refine AllReadyH.cons (o := ⟨_, _, _, _, _, _⟩) rfl (fun K hK => ?_) (AllReadyH.cons (o := ⟨_, _, _, _, _, _⟩) rfl (fun K hK => ?_) AllReadyH.nil)
            go_simp
            ((with_reducible refine (HA2.out _).mono ?_); rintro e w5 ⟨rfl, f5⟩; have qA5 := keep_fr ((Fr.refl F0 W4).drew.trans' f5) qA; have qB5 := keep_fr ((Fr.refl F0 W4).drew.trans' f5) qB)
            refine hK.out _ _ ?_ (fun hHeld => ?_)
            · ((try dsimp only) <;> (first | exact ⟨q15, F4.drew⟩ | exact hHeld | exact ⟨keep_fr f5 hHeld.1, hHeld.2.trans' f5⟩ | exact ⟨keep_row (Ne.symm hn1) hHeld.1, hHeld.2.setRow (fun h => absurd h hpa0) _⟩ | exact ⟨keep_row (Ne.symm hn2) hHeld.1, hHeld.2.setRow (fun h => absurd h hpb0) _⟩))
            clear hK K
            try (simp only [Act.put, List.setIfInBounds_toArray]; dsimp only [List.set_cons_zero, List.set_cons_succ])
            refine wpAnyH_ready (rs := [3]) (by kernel_rfl) (by simp) ?_
            refine AllReadyH.cons (o := ⟨_, _, _, _, _, _⟩) rfl (fun K hK => ?_) AllReadyH.nil
            go_simp
            refine hK.out _ _ ?_ (fun hHeld => ?_)
            · ((try dsimp only) <;> (first | exact ⟨q15, F4.drew⟩ | exact hHeld | exact ⟨keep_fr f5 hHeld.1, hHeld.2.trans' f5⟩ | exact ⟨keep_row (Ne.symm hn1) hHeld.1, hHeld.2.setRow (fun h => absurd h hpa0) _⟩ | exact ⟨keep_row (Ne.symm hn2) hHeld.1, hHeld.2.setRow (fun h => absurd h hpb0) _⟩))
            clear hK K
            try (simp only [Act.put, List.setIfInBounds_toArray]; dsimp only [List.set_cons_zero, List.set_cons_succ])
            refine wpAnyH_ready (rs := [5]) (by kernel_rfl) (by simp) ?_
            refine AllReadyH.cons (o := ⟨_, _, _, _, _, _⟩) rfl (fun K hK => ?_) AllReadyH.nil
            go_simp
            ((with_reducible refine (HB2.out _).mono ?_); rintro e w6 ⟨rfl, f5⟩; have qA6 := keep_fr f5 qA5; have qB6 := keep_fr f5 qB5; have qB7 := keep_row (c := XC) hba qB6)
            refine hK.out _ _ ?_ (fun hHeld => ?_)
            · ((try dsimp only) <;> (first | exact ⟨q15, F4.drew⟩ | exact hHeld | exact ⟨keep_fr f5 hHeld.1, hHeld.2.trans' f5⟩ | exact ⟨keep_row (Ne.symm hn1) hHeld.1, hHeld.2.setRow (fun h => absurd h hpa0) _⟩ | exact ⟨keep_row (Ne.symm hn2) hHeld.1, hHeld.2.setRow (fun h => absurd h hpb0) _⟩))
            clear hK K
            try (simp only [Act.put, List.setIfInBounds_toArray]; dsimp only [List.set_cons_zero, List.set_cons_succ])
            refine wpAnyH_ready (rs := [6]) (by kernel_rfl) (by simp) ?_
            refine AllReadyH.cons (o := ⟨_, _, _, _, _, _⟩) rfl (fun K hK => ?_) AllReadyH.nil
            go_simp
            refine hK.out _ _ ?_ (fun hHeld => ?_)
            · ((try dsimp only) <;> (first | exact ⟨q15, F4.drew⟩ | exact hHeld | exact ⟨keep_fr f5 hHeld.1, hHeld.2.trans' f5⟩ | exact ⟨keep_row (Ne.symm hn1) hHeld.1, hHeld.2.setRow (fun h => absurd h hpa0) _⟩ | exact ⟨keep_row (Ne.symm hn2) hHeld.1, hHeld.2.setRow (fun h => absurd h hpb0) _⟩))
            clear hK K
            try (simp only [Act.put, List.setIfInBounds_toArray]; dsimp only [List.set_cons_zero, List.set_cons_succ])
            refine wpAnyH_ready (rs := [7]) (by kernel_rfl) (by simp) ?_
            refine AllReadyH.cons (o := ⟨_, _, _, _, _, _⟩) rfl (fun K hK => ?_) AllReadyH.nil
            go_simp
            refine hK.out _ _ ?_ (fun hHeld => ?_)
            · ((try dsimp only) <;> (first | exact ⟨q15, F4.drew⟩ | exact hHeld | exact ⟨keep_fr f5 hHeld.1, hHeld.2.trans' f5⟩ | exact ⟨keep_row (Ne.symm hn1) hHeld.1, hHeld.2.setRow (fun h => absurd h hpa0) _⟩ | exact ⟨keep_row (Ne.symm hn2) hHeld.1, hHeld.2.setRow (fun h => absurd h hpb0) _⟩))
            clear hK K
            try (simp only [Act.put, List.setIfInBounds_toArray]; dsimp only [List.set_cons_zero, List.set_cons_succ])
            refine wpAnyH_done (by kernel_rfl) ?_ _
            refine NoPanic.normal ?_
            rotate_left
            go_simp
            refine hK.out _ _ ?_ (fun hHeld => ?_)
            · ((try dsimp only) <;> (first | exact ⟨q15, F4.drew⟩ | exact hHeld | exact ⟨keep_fr f5 hHeld.1, hHeld.2.trans' f5⟩ | exact ⟨keep_row (Ne.symm hn1) hHeld.1, hHeld.2.setRow (fun h => absurd h hpa0) _⟩ | exact ⟨keep_row (Ne.symm hn2) hHeld.1, hHeld.2.setRow (fun h => absurd h hpb0) _⟩))
            clear hK K
            try (simp only [Act.put, List.setIfInBounds_toArray]; dsimp only [List.set_cons_zero, List.set_cons_succ])
            refine wpAnyH_ready (rs := [2]) (by kernel_rfl) (by simp) ?_
            refine AllReadyH.cons (o := ⟨_, _, _, _, _, _⟩) rfl (fun K hK => ?_) AllReadyH.nil
            go_simp
            ((with_reducible refine (HA2.out _).mono ?_); rintro e w5 ⟨rfl, f5⟩; have qA5 := keep_fr ((Fr.refl F0 W4).drew.trans' f5) qA; have qB5 := keep_fr ((Fr.refl F0 W4).drew.trans' f5) qB)
            refine hK.out _ _ ?_ (fun hHeld => ?_)
            · ((try dsimp only) <;> (first | exact ⟨q15, F4.drew⟩ | exact hHeld | exact ⟨keep_fr f5 hHeld.1, hHeld.2.trans' f5⟩ | exact ⟨keep_row (Ne.symm hn1) hHeld.1, hHeld.2.setRow (fun h => absurd h hpa0) _⟩ | exact ⟨keep_row (Ne.symm hn2) hHeld.1, hHeld.2.setRow (fun h => absurd h hpb0) _⟩))
            clear hK K
            try (simp only [Act.put, List.setIfInBounds_toArray]; dsimp only [List.set_cons_zero, List.set_cons_succ])
            refine wpAnyH_ready (rs := [5]) (by kernel_rfl) (by simp) ?_
            refine AllReadyH.cons (o := ⟨_, _, _, _, _, _⟩) rfl (fun K hK => ?_) AllReadyH.nil
            go_simp
            ((with_reducible refine (HB2.out _).mono ?_); rintro e w6 ⟨rfl, f5⟩; have qA6 := keep_fr f5 qA5; have qB6 := keep_fr f5 qB5; have qB7 := keep_row (c := XC) hba qB6)
            refine hK.out _ _ ?_ (fun hHeld => ?_)
            · ((try dsimp only) <;> (first | exact ⟨q15, F4.drew⟩ | exact hHeld | exact ⟨keep_fr f5 hHeld.1, hHeld.2.trans' f5⟩ | exact ⟨keep_row (Ne.symm hn1) hHeld.1, hHeld.2.setRow (fun h => absurd h hpa0) _⟩ | exact ⟨keep_row (Ne.symm hn2) hHeld.1, hHeld.2.setRow (fun h => absurd h hpb0) _⟩))
            clear hK K
            try (simp only [Act.put, List.setIfInBounds_toArray]; dsimp only [List.set_cons_zero, List.set_cons_succ])
            refine wpAnyH_ready (rs := [6]) (by kernel_rfl) (by simp) ?_
            refine AllReadyH.cons (o := ⟨_, _, _, _, _, _⟩) rfl (fun K hK => ?_) AllReadyH.nil
            go_simp
            refine hK.out _ _ ?_ (fun hHeld => ?_)
            · ((try dsimp only) <;> (first | exact ⟨q15, F4.drew⟩ | exact hHeld | exact ⟨keep_fr f5 hHeld.1, hHeld.2.trans' f5⟩ | exact ⟨keep_row (Ne.symm hn1) hHeld.1, hHeld.2.setRow (fun h => absurd h hpa0) _⟩ | exact ⟨keep_row (Ne.symm hn2) hHeld.1, hHeld.2.setRow (fun h => absurd h hpb0) _⟩))
            clear hK K
            try (simp only [Act.put, List.setIfInBounds_toArray]; dsimp only [List.set_cons_zero, List.set_cons_succ])
            refine wpAnyH_ready (rs := [7]) (by kernel_rfl) (by simp) ?_
            refine AllReadyH.cons (o := ⟨_, _, _, _, _, _⟩) rfl (fun K hK => ?_) AllReadyH.nil
            go_simp
            refine hK.out _ _ ?_ (fun hHeld => ?_)
            · ((try dsimp only) <;> (first | exact ⟨q15, F4.drew⟩ | exact hHeld | exact ⟨keep_fr f5 hHeld.1, hHeld.2.trans' f5⟩ | exact ⟨keep_row (Ne.symm hn1) hHeld.1, hHeld.2.setRow (fun h => absurd h hpa0) _⟩ | exact ⟨keep_row (Ne.symm hn2) hHeld.1, hHeld.2.setRow (fun h => absurd h hpb0) _⟩))
            clear hK K
            try (simp only [Act.put, List.setIfInBounds_toArray]; dsimp only [List.set_cons_zero, List.set_cons_succ])
            refine wpAnyH_done (by kernel_rfl) ?_ _
            refine NoPanic.normal ?_
            rotate_left
            go_simp
            refine hK.out _ _ ?_ (fun hHeld => ?_)
            · ((try dsimp only) <;> (first | exact ⟨q15, F4.drew⟩ | exact hHeld | exact ⟨keep_fr f5 hHeld.1, hHeld.2.trans' f5⟩ | exact ⟨keep_row (Ne.symm hn1) hHeld.1, hHeld.2.setRow (fun h => absurd h hpa0) _⟩ | exact ⟨keep_row (Ne.symm hn2) hHeld.1, hHeld.2.setRow (fun h => absurd h hpb0) _⟩))
            clear hK K
            try (simp only [Act.put, List.setIfInBounds_toArray]; dsimp only [List.set_cons_zero, List.set_cons_succ])
            refine wpAnyH_ready (rs := [0]) (by kernel_rfl) (by simp) ?_
            refine AllReadyH.cons (o := ⟨_, _, _, _, _, _⟩) rfl (fun K hK => ?_) AllReadyH.nil
            go_simp
            refine hK.out _ _ ?_ (fun hHeld => ?_)
            · ((try dsimp only) <;> (first | exact ⟨q15, F4.drew⟩ | exact hHeld | exact ⟨keep_fr f5 hHeld.1, hHeld.2.trans' f5⟩ | exact ⟨keep_row (Ne.symm hn1) hHeld.1, hHeld.2.setRow (fun h => absurd h hpa0) _⟩ | exact ⟨keep_row (Ne.symm hn2) hHeld.1, hHeld.2.setRow (fun h => absurd h hpb0) _⟩))
            clear hK K
            try (simp only [Act.put, List.setIfInBounds_toArray]; dsimp only [List.set_cons_zero, List.set_cons_succ])
            refine wpAnyH_ready (rs := [2]) (by kernel_rfl) (by simp) ?_
            refine AllReadyH.cons (o := ⟨_, _, _, _, _, _⟩) rfl (fun K hK => ?_) AllReadyH.nil
            go_simp
            ((with_reducible refine (HA2.out _).mono ?_); rintro e w5 ⟨rfl, f5⟩; have qA5 := keep_fr ((Fr.refl F0 W4).drew.trans' f5) qA; have qB5 := keep_fr ((Fr.refl F0 W4).drew.trans' f5) qB)
            refine hK.out _ _ ?_ (fun hHeld => ?_)
            · ((try dsimp only) <;> (first | exact ⟨q15, F4.drew⟩ | exact hHeld | exact ⟨keep_fr f5 hHeld.1, hHeld.2.trans' f5⟩ | exact ⟨keep_row (Ne.symm hn1) hHeld.1, hHeld.2.setRow (fun h => absurd h hpa0) _⟩ | exact ⟨keep_row (Ne.symm hn2) hHeld.1, hHeld.2.setRow (fun h => absurd h hpb0) _⟩))
            clear hK K
            try (simp only [Act.put, List.setIfInBounds_toArray]; dsimp only [List.set_cons_zero, List.set_cons_succ])
            refine wpAnyH_ready (rs := [5]) (by kernel_rfl) (by simp) ?_
            refine AllReadyH.cons (o := ⟨_, _, _, _, _, _⟩) rfl (fun K hK => ?_) AllReadyH.nil
            go_simp
            ((with_reducible refine (HB2.out _).mono ?_); rintro e w6 ⟨rfl, f5⟩; have qA6 := keep_fr f5 qA5; have qB6 := keep_fr f5 qB5; have qB7 := keep_row (c := XC) hba qB6)
            refine hK.out _ _ ?_ (fun hHeld => ?_)
            · ((try dsimp only) <;> (first | exact ⟨q15, F4.drew⟩ | exact hHeld | exact ⟨keep_fr f5 hHeld.1, hHeld.2.trans' f5⟩ | exact ⟨keep_row (Ne.symm hn1) hHeld.1, hHeld.2.setRow (fun h => absurd h hpa0) _⟩ | exact ⟨keep_row (Ne.symm hn2) hHeld.1, hHeld.2.setRow (fun h => absurd h hpb0) _⟩))
            clear hK K
            try (simp only [Act.put, List.setIfInBounds_toArray]; dsimp only [List.set_cons_zero, List.set_cons_succ])
            refine wpAnyH_ready (rs := [6]) (by kernel_rfl) (by simp) ?_
            refine AllReadyH.cons (o := ⟨_, _, _, _, _, _⟩) rfl (fun K hK => ?_) AllReadyH.nil
            go_simp
            refine hK.out _ _ ?_ (fun hHeld => ?_)
            · ((try dsimp only) <;> (first | exact ⟨q15, F4.drew⟩ | exact hHeld | exact ⟨keep_fr f5 hHeld.1, hHeld.2.trans' f5⟩ | exact ⟨keep_row (Ne.symm hn1) hHeld.1, hHeld.2.setRow (fun h => absurd h hpa0) _⟩ | exact ⟨keep_row (Ne.symm hn2) hHeld.1, hHeld.2.setRow (fun h => absurd h hpb0) _⟩))
            clear hK K
            try (simp only [Act.put, List.setIfInBounds_toArray]; dsimp only [List.set_cons_zero, List.set_cons_succ])
            refine wpAnyH_ready (rs := [7]) (by kernel_rfl) (by simp) ?_
            refine AllReadyH.cons (o := ⟨_, _, _, _, _, _⟩) rfl (fun K hK => ?_) AllReadyH.nil
            go_simp
            refine hK.out _ _ ?_ (fun hHeld => ?_)
            · ((try dsimp only) <;> (first | exact ⟨q15, F4.drew⟩ | exact hHeld | exact ⟨keep_fr f5 hHeld.1, hHeld.2.trans' f5⟩ | exact ⟨keep_row (Ne.symm hn1) hHeld.1, hHeld.2.setRow (fun h => absurd h hpa0) _⟩ | exact ⟨keep_row (Ne.symm hn2) hHeld.1, hHeld.2.setRow (fun h => absurd h hpb0) _⟩))
            clear hK K
            try (simp only [Act.put, List.setIfInBounds_toArray]; dsimp only [List.set_cons_zero, List.set_cons_succ])
            refine wpAnyH_done (by kernel_rfl) ?_ _
            refine NoPanic.normal ?_
            rotate_left
            all_goals
              have hA9 : ((w6.setRow pa XC).setRow pb XD).heap[pa]? = some (.cells XC 27 (0, 0)) := keep_row hab (new_row qA6)
              have hB9 : ((w6.setRow pa XC).setRow pb XD).heap[pb]? = some (.cells XD 27 (0, 0)) := new_row qB7
              have F9 := hHeld.2
              clear hHeld qA6 qB6 qB7 qA5 qB5 qA qB q15 f5 F4 HA2 HB2
              generalize (w6.setRow pa XC).setRow pb XD = W9 at *
              cases EQ with
              | false =>
                have hkw := Lib.hid (show wrap64 ((k : Int) + 1) = ((k + 1 : Nat) : Int) by have := HH.out.2.2.2.2; unfold wrap64; omega)
                have hK9 := Lib.hid (HK.out W9 (of_decide_eq_false hEQ.out.symm) hA9 hB9 F9)
                clear HK hEQ
                go_wp2
                go_roundw
                case rel => exact ⟨k + 1, i2, n2, A', B', by omega, by first | rfl | go_num, by first | rfl | go_num, congrArg (Value.int IntKind.i64) hkw.out, hK9.out⟩
                case measure => exact pv_meas R k hlt HH.out.2.2.2.2
              | true =>
                clear HK hEQ
                go_wp2
                go_ret
                exact ⟨rfl, HF.out _ F9⟩

theorem merkleProves_any (l : List (List UInt8)) (a : Option Addr) (c : Nat) (i : Int) (o : List UInt8) (ho : o.length = 32) (w : World) (hs : Hs w a c l) (hcub : Cub w) :
    Calls Tryd.prog 6 #[.slice a l.length c, .int .i64 i, .agg (hc o)] w fun e w' => e = .returned (.bool true) ∧ Fr F0 w w' := by
  by_cases hno : l.length = 0 ∨ 12 < l.length
  · exact merkleProves_off l a c i o ho w hs hcub hno
  · exact merkleProves_in l a c i o ho w hs hcub (by omega) (by omega)
end Go.Proofs.YthpcajpiflpmdaaDoor
