/- Stage 2, digest: Text. -/
import Derived.Test.YtkppakhjfagdnaaDoorBackB
import Derived.Test.YtkppakhjfagdnaaDoorHex
import Derived.Test.YtkppakhjfagdnaaDoorDigZ
import Derived.OwnWalk
import Derived.Test.YtkppakhjfagdnaaDoorRr
import Derived.ArgAppend
namespace Go.Proofs.YtkppakhjfagdnaaDoor
set_option linter.unusedVariables false
set_option linter.unusedSimpArgs false
open Go.RowKit Go.Shelf

attribute [local go_sem] Oper.semAt_some

theorem signs_nat : ∀ q, (hq : q < 16) → ({ data := #[48, 49, 50, 51, 52, 53, 54, 55, 56, 57, 97, 98, 99, 100, 101, 102] } : ByteArray)[q]'hq = hexd q := by decide +kernel

theorem wpIn_of_worldB {F : Fence} {n : Nat} {P : Program} {c : Code} {Q : Exit → Act → World → Prop} {a : Act} {w : World} (W : World) (h : W = w) (k : Code.wpIn F n P c Q a W) : Code.wpIn F n P c Q a w := h ▸ k
theorem heap4B (w : World) (A B C D : Obj) : let W := (((w.alloc A).alloc B).alloc C).alloc D
    W.heap[w.heap.size]? = some A ∧ W.heap[w.heap.size + 1]? = some B ∧ W.heap[w.heap.size + 1 + 1]? = some C ∧ W.heap[w.heap.size + 1 + 1 + 1]? = some D := by
  have o := fun (w : World) (o : Obj) (k : Nat) (hk : k < w.heap.size) => heap_alloc_old w o k hk
  intro W
  have s1 : (w.alloc A).heap.size = w.heap.size + 1 := World.size_alloc _ _
  have s2 : ((w.alloc A).alloc B).heap.size = w.heap.size + 1 + 1 := by rw [World.size_alloc, s1]
  have s3 : (((w.alloc A).alloc B).alloc C).heap.size = w.heap.size + 1 + 1 + 1 := by rw [World.size_alloc, s2]
  refine ⟨?_, ?_, ?_, ?_⟩
  · exact (o (((w.alloc A).alloc B).alloc C) D _ (by omega)).trans ((o ((w.alloc A).alloc B) C _ (by omega)).trans ((o (w.alloc A) B _ (by omega)).trans (heap_alloc_new w A)))
  · exact (o (((w.alloc A).alloc B).alloc C) D _ (by omega)).trans ((o ((w.alloc A).alloc B) C _ (by omega)).trans (by rw [← s1]; exact heap_alloc_new _ B))
  · exact (o (((w.alloc A).alloc B).alloc C) D _ (by omega)).trans (by rw [← s2]; exact heap_alloc_new _ C)
  · rw [← s3]; exact heap_alloc_new _ D
theorem run_make_text (w : World) :
    (Instr.makeSlice 34 (.int .i64 0) (.int .i64 64)).run Tryd.prog w = .ok (.slice (some ⟨w.heap.size, 0, none⟩) 0 64) (w.alloc (.cells (arrB [] 64) 5)) := by
  obtain ⟨i0, hi, hz0, hz1, hz2⟩ := info_parts Tryd.infoU8
  have := run_make (P := Tryd.prog) w 34 5 i0 (.int .u8 0) Tryd.underlying34 hi hz0 .i64 .i64 0 64 (by omega) (by omega) (by rw [hz2]; omega) (by omega)
  rw [hz1] at this
  have e : madeCells (Value.int IntKind.u8 0).cells (Int.toNat 64 * 1) = arrB [] 64 := by kernel_rfl
  rw [e] at this
  exact this

theorem Fr.keepsFromB {W W' : World} (h : Fr F0 W W') (B : Nat) : KeepsFrom B W W' := ⟨h.size, fun k o _ hk _ => h.keeps (fun f => f) hk⟩

theorem append2 {V : World} {T N : Nat} {tx : List UInt8} {a b : UInt8} (hT : V.heap[T]? = some (.cells (arrB tx 64) 5 (0, 0))) (hl : tx.length + 2 ≤ 64) (hN : V.heap[N]? = some (.cells #[.int .u8 (a.toNat : Int), .int .u8 (b.toNat : Int)] 5 (0, 0))) :
    (Builtin.append_ #[34, 34] 34 #[.slice (some ⟨T, 0, none⟩) tx.length 64, .slice (some ⟨N, 0, none⟩) 2 2]).run Tryd.prog V =
      .ok (.slice (some ⟨T, 0, none⟩) (tx.length + 2) 64) ((V.setCell ⟨T, tx.length, none⟩ (.int .u8 (a.toNat : Int))).setCell ⟨T, tx.length + 1, none⟩ (.int .u8 (b.toNat : Int))) := by
  obtain ⟨i0, hi, hz0, hz1, hz2⟩ := info_parts Tryd.infoU8
  have h := run_append_room_cells (P := Tryd.prog) (w := V) 34 34 5 i0 Tryd.underlying34 hi T 0 tx.length 64 ⟨N, 0, none⟩ 2 2 [.int .u8 (a.toNat : Int), .int .u8 (b.toNat : Int)] (by rw [hz1]; rfl)
    (fun j u hj => by
      rw [Addr.add_lit, Nat.zero_add, cell_of_row V N j _ _ _ hN]
      match j, hj with
      | 0, hj => simpa using hj
      | 1, hj => simpa using hj)
    (by intro u hu; simp at hu; rcases hu with rfl | rfl <;> rfl) hl
    (fun j hj => by
      rw [hz1, Nat.zero_add, Nat.mul_one, cell_of_row V T _ _ _ _ hT, arrB_get0 _ _ _ (by omega) (by simp at hj; omega)]; rfl)
    (fun j hj => free_row hT)
  rw [hz1, Nat.zero_add, Nat.mul_one] at h
  exact h

theorem row2 {V : World} {T : Nat} {tx : List UInt8} {a b : UInt8} (hT : V.heap[T]? = some (.cells (arrB tx 64) 5 (0, 0))) (hl : tx.length + 2 ≤ 64) :
    ((V.setCell ⟨T, tx.length, none⟩ (.int .u8 (a.toNat : Int))).setCell ⟨T, tx.length + 1, none⟩ (.int .u8 (b.toNat : Int))).heap[T]? = some (.cells (arrB (tx ++ [a] ++ [b]) 64) 5 (0, 0)) := by
  have h1 := heap_setCell_in V T tx.length _ _ _ (.int .u8 (a.toNat : Int)) hT
  rw [arrB_set _ _ _ _ rfl (by omega)] at h1
  have h2 := heap_setCell_in _ T (tx.length + 1) _ _ _ (.int .u8 (b.toNat : Int)) h1
  rwa [arrB_set _ _ _ _ (by simp) (by simp; omega)] at h2

set_option maxRecDepth 100000 in
set_option maxHeartbeats 8000000 in
theorem dText_any (h : List UInt8) (hh : h.length = 32) (w : World) :
    Calls Tryd.prog 6 #[.agg (h.map B8).toArray] w fun e w' => e = .returned (.string (strOf (textL h))) ∧ Fr F0 w w' := by
  have hz : (h.map B8).toArray.size = 32 := by simp [hh]
  have hmk := run_make_text
  refine callsIn_wide (n := 6) |>.1 ?_
  refine callsIn_of_wp_marks Tryd.func6 rfl trivial ?_ rfl
  simp only [Tryd.ntmps6, List.size_toArray, List.length_cons, List.length_nil, Nat.reduceAdd, Nat.reduceSub, Array.replicate_succ, Array.replicate_zero, List.push_toArray, List.append_toArray, List.nil_append, List.cons_append]
  gi_wp2_with (refine ⟨trivial, ?_⟩; gi_at_call 13; refine (Backward_in _ _ trivial rfl _ _ _ _).mono ?_; rintro e w4 ⟨rfl, rfl⟩)
  obtain ⟨W1, hW1⟩ : ∃ W1, W1 = (((w.alloc (.cells (h.map B8).toArray 23)).alloc (.cells (arrB [] 64) 5)).alloc (.cells #[.slice (some ⟨w.heap.size + 1, 0, none⟩) 0 64] 34)).alloc (.cells #[.slice (some ⟨w.heap.size, 0, none⟩) 32 32] 34) := ⟨_, rfl⟩
  refine wpIn_of_worldB W1 hW1 ?_
  have f1 : Fr F0 w W1 := by rw [hW1]; exact ((((Fr.refl F0 w).alloc _).alloc _).alloc _).alloc _
  obtain ⟨r0, r1, r2, r3⟩ := heap4B w (.cells (h.map B8).toArray 23) (.cells (arrB [] 64) 5) (.cells #[.slice (some ⟨w.heap.size + 1, 0, none⟩) 0 64] 34) (.cells #[.slice (some ⟨w.heap.size, 0, none⟩) 32 32] 34)
  rw [← hW1] at r0 r1 r2 r3
  have hs1 : W1.heap.size = w.heap.size + 1 + 1 + 1 + 1 := by rw [hW1]; simp
  clear hW1 hmk
  generalize hY : w.heap.size = Y at *
  generalize hT : Y + 1 = T at *
  generalize hG : T + 1 = G at *
  generalize hBx : G + 1 = Bx at *
  have HG := Lib.hid (show w.heap.size = Y ∧ Y ≤ W1.heap.size ∧ Y ≤ T ∧ Y ≤ G by omega)
  have m1 : Y ≠ T ∧ Y ≠ G ∧ Bx ≠ T ∧ Bx ≠ G ∧ T ≠ G ∧ G ≠ T := by omega
  obtain ⟨nYT, nYG, nBT, nBG, nTG, nGT⟩ := m1
  clear hY hT hG hBx hs1
  refine range_law rfl (by omega) (gf := 20) (lb := #[.pointer (some ⟨Bx, 0, none⟩)]) rfl trivial (enters_of Tryd.func20 (by kernel_rfl) rfl)
    (BackB1_seq Fence.wide 5 trivial rfl (by omega) h Bx Y 0 32 (by omega)) (fun _ => rfl)
    (fun pre W => (W.heap[Y]? = some (.cells (h.map B8).toArray 23 (0, 0)) ∧ W.heap[T]? = some (.cells (arrB (hexT (pre.map (·.2))) 64) 5 (0, 0)) ∧ W.heap[G]? = some (.cells #[.slice (some ⟨T, 0, none⟩) (hexT (pre.map (·.2))).length 64] 34 (0, 0)) ∧ W.heap[Bx]? = some (.cells #[.slice (some ⟨Y, 0, none⟩) 32 32] 34 (0, 0))) ∧ Below Y W1 W)
    (fun c _ W => False)
    (OwnFrom.and (OwnFrom.and (own_heap _ _ _ _ _) (OwnFrom.and (own_heap _ _ (fun pre : List (Nat × UInt8) => arrB (hexT (pre.map (·.2))) 64) _ _) (OwnFrom.and (own_heap _ _ (fun pre : List (Nat × UInt8) => #[.slice (some ⟨T, 0, none⟩) (hexT (pre.map (·.2))).length 64]) _ _) (own_heap _ _ _ _ _)))) (own_below _ _ _ (Nat.le_refl _) HG.out.2.1))
    (fun c => own_pure _ _)
    ?sees ⟨⟨r0, r1, r2, r3⟩, Below.refl _ _⟩
    (fun x => { tmps := #[.agg (h.map B8).toArray, .pointer (some ⟨Y, 0, none⟩), .string { data := #[] }, .pointer (some ⟨G, 0, none⟩), undef, .int .u8 (x.2.toNat : Int), .slice (some ⟨T, 0, none⟩) 0 64, .slice (some ⟨Y, 0, none⟩) 32 32, .func (.func 20) #[] #[.pointer (some ⟨Bx, 0, none⟩)], .int .i64 (x.1 : Int), .int .u8 (x.2.toNat : Int), undef, undef, undef, undef, undef, undef, undef, undef, undef, undef, undef], defers := [] }) ?assign ?body ?done ?stop
  case sees =>
    rintro pre W ⟨⟨q0, q1, q2, q3⟩, hB⟩
    refine ⟨by rw [cell_of_row W Bx 0 _ _ _ q3, hh]; rfl, fun j hj => ?_⟩
    have := rowB_get q0 j hj
    rw [Nat.zero_add, this]
    simp [List.getD, List.getElem?_eq_getElem hj]
  case assign =>
    intro l x W K hK
    gi_wp2
    exact hK
  case body =>
    rintro l pre x W ⟨⟨q0, q1, q2, q3⟩, hB⟩ ⟨hlen, rfl, hpre⟩
    have hL : (hexT (pre.map (·.2))).length = 2 * pre.length := by rw [hexT_length, List.length_map]
    have hHX : hexT ((pre ++ [bk h pre.length]).map (·.2)) = hexT (pre.map (·.2)) ++ [hexd ((bk h pre.length).2.toNat / 16)] ++ [hexd ((bk h pre.length).2.toNat % 16)] := by rw [List.map_append]; exact hexT_snoc _ _
    generalize bk h pre.length = x at *
    generalize hexT (pre.map (·.2)) = tx at *
    obtain ⟨tx2, htx2⟩ : ∃ t, t = hexT ((pre ++ [x]).map (·.2)) := ⟨_, rfl⟩
    rw [← htx2] at hHX
    have HTX := Lib.hid htx2.symm
    clear htx2

    obtain ⟨k, c⟩ := x
    obtain ⟨q, hq⟩ : ∃ q, q = c.toNat / 16 := ⟨_, rfl⟩
    obtain ⟨r, hr⟩ : ∃ r, r = c.toNat % 16 := ⟨_, rfl⟩
    dsimp only at hHX ⊢
    rw [← hq, ← hr] at hHX
    have hc := c.toNat_lt
    obtain ⟨X, hX⟩ : ∃ X, X = c.toNat := ⟨_, rfl⟩
    rw [← hX] at hq hr hc ⊢
    have hq16 : q < 16 := by omega
    have hr16 : r < 16 := by omega
    have dq : (X : Int) / 16 = (q : Int) := by omega
    have da : bits .and .u8 (X : Int) 15 = (r : Int) := by
      rw [show (15 : Int) = ((15 : Nat) : Int) from rfl, u8_and_nat X 15 hc (by omega), show (15 : Nat) = 2 ^ 4 - 1 from rfl, Nat.and_two_pow_sub_one_eq_mod, hr]
    have lq : (q : Int) < 16 := by omega
    have lr : (r : Int) < 16 := by omega
    have sq := signs_nat q hq16
    have sr := signs_nat r hr16
    have HXX := Lib.hid (And.intro hX (And.intro hq hr))
    have hl2 : tx.length + 2 ≤ 64 := by omega
    clear hL hlen
    have HHX := Lib.hid hHX
    clear hX hq hr hHX hpre
    gi_wp2
    refine region_round (by kernel_rfl) rfl (by kernel_rfl) ?_
    refine wpAnyIn_take (oi := ⟨_, _, _, _, _, _⟩) (i := 1) (v := ?_) rfl rfl (by kernel_rfl) (by kernel_rfl) (by kernel_rfl) (fun _ _ _ h => h) ⟨Or.inl ⟨by rfl, ?_⟩, fun _ => rfl⟩ ?_
    rotate_left
    · intro w; go_simp; (try (with_reducible rfl)); done
    (simp only [Act.put, List.setIfInBounds_toArray]; try dsimp only [List.set_cons_zero, List.set_cons_succ])
    refine wpAnyIn_take (oi := ⟨_, _, _, _, _, _⟩) (i := 2) (v := ?_) rfl rfl (by kernel_rfl) (by kernel_rfl) (by kernel_rfl) (fun _ _ _ h => h) ⟨Or.inl ⟨by rfl, ?_⟩, fun _ => rfl⟩ ?_
    rotate_left
    · intro w; go_simp; (try (with_reducible rfl)); done
    (simp only [Act.put, List.setIfInBounds_toArray]; try dsimp only [List.set_cons_zero, List.set_cons_succ])
    refine wpAnyIn_take (oi := ⟨_, _, _, _, _, _⟩) (i := 3) (v := ?_) rfl rfl (by kernel_rfl) (by kernel_rfl) (by kernel_rfl) (fun _ _ _ h => h) ⟨Or.inl ⟨by rfl, ?_⟩, fun _ => rfl⟩ ?_
    rotate_left
    · intro w; go_simp; (try (with_reducible rfl)); done
    (simp only [Act.put, List.setIfInBounds_toArray]; try dsimp only [List.set_cons_zero, List.set_cons_succ])
    refine wpAnyIn_take (oi := ⟨_, _, _, _, _, _⟩) (i := 4) (v := ?_) rfl rfl (by kernel_rfl) (by kernel_rfl) (by kernel_rfl) (fun _ _ _ h => h) ⟨Or.inl ⟨by rfl, ?_⟩, fun _ => rfl⟩ ?_
    rotate_left
    · intro w; go_simp; (try (with_reducible rfl)); done
    (simp only [Act.put, List.setIfInBounds_toArray]; try dsimp only [List.set_cons_zero, List.set_cons_succ])
    refine wpAnyIn_take (oi := ⟨_, _, _, _, _, _⟩) (i := 5) (v := ?_) rfl rfl (by kernel_rfl) (by kernel_rfl) (by kernel_rfl) (fun _ _ _ h => h) ⟨Or.inl ⟨by rfl, ?_⟩, fun _ => rfl⟩ ?_
    rotate_left
    · intro w; go_simp; (try (with_reducible rfl)); done
    (simp only [Act.put, List.setIfInBounds_toArray]; try dsimp only [List.set_cons_zero, List.set_cons_succ])
    refine wpAnyIn_take (oi := ⟨_, _, _, _, _, _⟩) (i := 6) (v := ?_) rfl rfl (by kernel_rfl) (by kernel_rfl) (by kernel_rfl) (fun _ _ _ h => h) ⟨Or.inl ⟨by rfl, ?_⟩, fun _ => rfl⟩ ?_
    rotate_left
    · intro w; go_simp; (try (with_reducible rfl)); done
    (simp only [Act.put, List.setIfInBounds_toArray]; try dsimp only [List.set_cons_zero, List.set_cons_succ])
    have hcG : W.cell? ⟨G, 0, none⟩ = some (.slice (some ⟨T, 0, none⟩) tx.length 64) := by rw [cell_of_row W G 0 _ _ _ q2]; rfl
    refine wpAnyIn_ready (rs := [0, 7]) (by kernel_rfl) (by simp) ?_
    refine BigFrame.allReadyIn_want (o := ⟨_, _, _, _, _, _⟩) rfl (by rfl) (fun K hK => ?_) (BigFrame.allReadyIn_want (o := ⟨_, _, _, _, _, _⟩) rfl (by rfl) (fun K hK => ?_) AllReadyIn.nil)
    · go_simp
      refine hK _ _ ?_
      clear hK K
      try (simp only [Act.put, List.setIfInBounds_toArray]; try dsimp only [List.set_cons_zero, List.set_cons_succ])
      refine wpAnyIn_ready (rs := [7]) (by kernel_rfl) (by simp) ?_
      refine BigFrame.allReadyIn_want (o := ⟨_, _, _, _, _, _⟩) rfl (by rfl) (fun K hK => ?_) AllReadyIn.nil
      go_simp
      refine hK _ _ ?_
      clear hK K
      try (simp only [Act.put, List.setIfInBounds_toArray]; try dsimp only [List.set_cons_zero, List.set_cons_succ])
      obtain ⟨V, hV⟩ : ∃ V, V = (W.alloc (.cells #[.int .u8 ((hexd q).toNat : Int), .int .u8 ((hexd r).toNat : Int)] 5)).drew := ⟨_, rfl⟩
      change wpAnyIn _ _ _ _ _ _ _ _ _ ((W.alloc (.cells #[.int .u8 ((hexd q).toNat : Int), .int .u8 ((hexd r).toNat : Int)] 5)).drew)
      rw [← hV]
      have HV : Fr F0 W V := by rw [hV]; exact ((Fr.refl F0 W).alloc _).drew
      have hN : V.heap[W.heap.size]? = some (.cells #[.int .u8 ((hexd q).toNat : Int), .int .u8 ((hexd r).toNat : Int)] 5 (0, 0)) := by rw [hV]; exact heap_alloc_new W _
      clear hV
      replace q0 := HV.keeps (fun f => f) q0
      replace q1 := HV.keeps (fun f => f) q1
      replace q2 := HV.keeps (fun f => f) q2
      replace q3 := HV.keeps (fun f => f) q3
      replace hcG : V.cell? ⟨G, 0, none⟩ = some (.slice (some ⟨T, 0, none⟩) tx.length 64) := by rw [cell_of_row V G 0 _ _ _ q2]; rfl
      refine wpAnyIn_ready (rs := [8]) (by kernel_rfl) (by simp) ?_
      refine BigFrame.allReadyIn_want (o := ⟨_, _, _, _, _, _⟩) rfl (by rfl) (fun K hK => ?_) AllReadyIn.nil
      refine oper_append_in (v' := .slice (some ⟨T, 0, none⟩) (tx.length + 2) 64) (w' := (V.setCell ⟨T, tx.length, none⟩ (.int .u8 ((hexd q).toNat : Int))).setCell ⟨T, tx.length + 1, none⟩ (.int .u8 ((hexd r).toNat : Int))) rfl rfl ?_ ?_
      · dsimp only [Act.eval]
        exact append2 q1 hl2 hN
      refine hK _ _ ?_
      clear hK K
      try (simp only [Act.put, List.setIfInBounds_toArray]; try dsimp only [List.set_cons_zero, List.set_cons_succ])
      obtain ⟨U, hU⟩ : ∃ U, U = (V.setCell ⟨T, tx.length, none⟩ (.int .u8 ((hexd q).toNat : Int))).setCell ⟨T, tx.length + 1, none⟩ (.int .u8 ((hexd r).toNat : Int)) := ⟨_, rfl⟩
      rw [← hU]
      have u1 : U.heap[T]? = some (.cells (arrB tx2 64) 5 (0, 0)) := by rw [hU, HHX.out]; exact row2 q1 hl2
      have u0 : U.heap[Y]? = some (.cells (h.map B8).toArray 23 (0, 0)) := by rw [hU, Below.heap_setCell _ _ _ _ nYT, Below.heap_setCell _ _ _ _ nYT]; exact q0
      have u2 : U.heap[G]? = some (.cells #[.slice (some ⟨T, 0, none⟩) tx.length 64] 34 (0, 0)) := by rw [hU, Below.heap_setCell _ _ _ _ nGT, Below.heap_setCell _ _ _ _ nGT]; exact q2
      have u3 : U.heap[Bx]? = some (.cells #[.slice (some ⟨Y, 0, none⟩) 32 32] 34 (0, 0)) := by rw [hU, Below.heap_setCell _ _ _ _ nBT, Below.heap_setCell _ _ _ _ nBT]; exact q3
      have hB2 : Below Y W1 U := by
        rw [hU]
        exact ((hB.trans (HV.below (Nat.le_trans HG.out.2.1 hB.size) fun _ _ f => f)).setCell (p := ⟨T, tx.length, none⟩) HG.out.2.2.1 _).setCell (p := ⟨T, tx.length + 1, none⟩) HG.out.2.2.1 _
      have hk2 : KeepsFrom W1.heap.size W U := by
        rw [hU]
        exact (((HV.keepsFromB W1.heap.size).trans ((KeepsOthers.setCell V ⟨T, tx.length, none⟩ _).from _)).trans ((KeepsOthers.setCell _ ⟨T, tx.length + 1, none⟩ _).from _))
      have hcU : U.cell? ⟨G, 0, none⟩ = some (.slice (some ⟨T, 0, none⟩) tx.length 64) := by rw [cell_of_row U G 0 _ _ _ u2]; rfl
      have hfU : U.frozen? ⟨G, 0, none⟩ = false := free_row u2
      have hl3 : tx2.length = tx.length + 2 := by rw [HHX.out]; simp
      clear hU q0 q1 q2 q3 hN HV hcG hB
      refine wpAnyIn_ready (rs := [9]) (by kernel_rfl) (by simp) ?_
      refine BigFrame.allReadyIn_want (o := ⟨_, _, _, _, _, _⟩) rfl (by rfl) (fun K hK => ?_) AllReadyIn.nil
      have HL3 := Lib.hid hl3
      clear hl3
      go_simp
      refine hK _ _ ?_
      clear hK K
      refine wpAnyIn_done (by kernel_rfl) ?_ _
      refine ⟨hk2.trans ((KeepsOthers.setCell U ⟨G, 0, none⟩ _).from _), trivial, ⟨?_, ?_, ?_, ?_⟩, hB2.setCell (p := ⟨G, 0, none⟩) HG.out.2.2.2 _⟩
      · rw [Below.heap_setCell _ _ _ _ nYG]; exact u0
      · rw [Below.heap_setCell _ _ _ _ nTG, HTX.out]; exact u1
      · rw [heap_setCell_in U G 0 _ _ _ _ u2, HTX.out, HL3.out]; rfl
      · rw [Below.heap_setCell _ _ _ _ nBG]; exact u3
    · go_simp
      refine hK _ _ ?_
      clear hK K
      try (simp only [Act.put, List.setIfInBounds_toArray]; try dsimp only [List.set_cons_zero, List.set_cons_succ])
      obtain ⟨V, hV⟩ : ∃ V, V = (W.alloc (.cells #[.int .u8 ((hexd q).toNat : Int), .int .u8 ((hexd r).toNat : Int)] 5)).drew := ⟨_, rfl⟩
      change wpAnyIn _ _ _ _ _ _ _ _ _ ((W.alloc (.cells #[.int .u8 ((hexd q).toNat : Int), .int .u8 ((hexd r).toNat : Int)] 5)).drew)
      rw [← hV]
      have HV : Fr F0 W V := by rw [hV]; exact ((Fr.refl F0 W).alloc _).drew
      have hN : V.heap[W.heap.size]? = some (.cells #[.int .u8 ((hexd q).toNat : Int), .int .u8 ((hexd r).toNat : Int)] 5 (0, 0)) := by rw [hV]; exact heap_alloc_new W _
      clear hV
      replace q0 := HV.keeps (fun f => f) q0
      replace q1 := HV.keeps (fun f => f) q1
      replace q2 := HV.keeps (fun f => f) q2
      replace q3 := HV.keeps (fun f => f) q3
      replace hcG : V.cell? ⟨G, 0, none⟩ = some (.slice (some ⟨T, 0, none⟩) tx.length 64) := by rw [cell_of_row V G 0 _ _ _ q2]; rfl
      refine wpAnyIn_ready (rs := [0]) (by kernel_rfl) (by simp) ?_
      refine BigFrame.allReadyIn_want (o := ⟨_, _, _, _, _, _⟩) rfl (by rfl) (fun K hK => ?_) AllReadyIn.nil
      go_simp
      refine hK _ _ ?_
      clear hK K
      try (simp only [Act.put, List.setIfInBounds_toArray]; try dsimp only [List.set_cons_zero, List.set_cons_succ])
      refine wpAnyIn_ready (rs := [8]) (by kernel_rfl) (by simp) ?_
      refine BigFrame.allReadyIn_want (o := ⟨_, _, _, _, _, _⟩) rfl (by rfl) (fun K hK => ?_) AllReadyIn.nil
      refine oper_append_in (v' := .slice (some ⟨T, 0, none⟩) (tx.length + 2) 64) (w' := (V.setCell ⟨T, tx.length, none⟩ (.int .u8 ((hexd q).toNat : Int))).setCell ⟨T, tx.length + 1, none⟩ (.int .u8 ((hexd r).toNat : Int))) rfl rfl ?_ ?_
      · dsimp only [Act.eval]
        exact append2 q1 hl2 hN
      refine hK _ _ ?_
      clear hK K
      try (simp only [Act.put, List.setIfInBounds_toArray]; try dsimp only [List.set_cons_zero, List.set_cons_succ])
      obtain ⟨U, hU⟩ : ∃ U, U = (V.setCell ⟨T, tx.length, none⟩ (.int .u8 ((hexd q).toNat : Int))).setCell ⟨T, tx.length + 1, none⟩ (.int .u8 ((hexd r).toNat : Int)) := ⟨_, rfl⟩
      rw [← hU]
      have u1 : U.heap[T]? = some (.cells (arrB tx2 64) 5 (0, 0)) := by rw [hU, HHX.out]; exact row2 q1 hl2
      have u0 : U.heap[Y]? = some (.cells (h.map B8).toArray 23 (0, 0)) := by rw [hU, Below.heap_setCell _ _ _ _ nYT, Below.heap_setCell _ _ _ _ nYT]; exact q0
      have u2 : U.heap[G]? = some (.cells #[.slice (some ⟨T, 0, none⟩) tx.length 64] 34 (0, 0)) := by rw [hU, Below.heap_setCell _ _ _ _ nGT, Below.heap_setCell _ _ _ _ nGT]; exact q2
      have u3 : U.heap[Bx]? = some (.cells #[.slice (some ⟨Y, 0, none⟩) 32 32] 34 (0, 0)) := by rw [hU, Below.heap_setCell _ _ _ _ nBT, Below.heap_setCell _ _ _ _ nBT]; exact q3
      have hB2 : Below Y W1 U := by
        rw [hU]
        exact ((hB.trans (HV.below (Nat.le_trans HG.out.2.1 hB.size) fun _ _ f => f)).setCell (p := ⟨T, tx.length, none⟩) HG.out.2.2.1 _).setCell (p := ⟨T, tx.length + 1, none⟩) HG.out.2.2.1 _
      have hk2 : KeepsFrom W1.heap.size W U := by
        rw [hU]
        exact (((HV.keepsFromB W1.heap.size).trans ((KeepsOthers.setCell V ⟨T, tx.length, none⟩ _).from _)).trans ((KeepsOthers.setCell _ ⟨T, tx.length + 1, none⟩ _).from _))
      have hcU : U.cell? ⟨G, 0, none⟩ = some (.slice (some ⟨T, 0, none⟩) tx.length 64) := by rw [cell_of_row U G 0 _ _ _ u2]; rfl
      have hfU : U.frozen? ⟨G, 0, none⟩ = false := free_row u2
      have hl3 : tx2.length = tx.length + 2 := by rw [HHX.out]; simp
      clear hU q0 q1 q2 q3 hN HV hcG hB
      refine wpAnyIn_ready (rs := [9]) (by kernel_rfl) (by simp) ?_
      refine BigFrame.allReadyIn_want (o := ⟨_, _, _, _, _, _⟩) rfl (by rfl) (fun K hK => ?_) AllReadyIn.nil
      have HL3 := Lib.hid hl3
      clear hl3
      go_simp
      refine hK _ _ ?_
      clear hK K
      refine wpAnyIn_done (by kernel_rfl) ?_ _
      refine ⟨hk2.trans ((KeepsOthers.setCell U ⟨G, 0, none⟩ _).from _), trivial, ⟨?_, ?_, ?_, ?_⟩, hB2.setCell (p := ⟨G, 0, none⟩) HG.out.2.2.2 _⟩
      · rw [Below.heap_setCell _ _ _ _ nYG]; exact u0
      · rw [Below.heap_setCell _ _ _ _ nTG, HTX.out]; exact u1
      · rw [heap_setCell_in U G 0 _ _ _ _ u2, HTX.out, HL3.out]; rfl
      · rw [Below.heap_setCell _ _ _ _ nBG]; exact u3
  case done =>
    rintro D ys W hD hy ⟨⟨q0, q1, q2, q3⟩, hB⟩ hK
    have hm : ys.map (·.2) = h.reverse := by rw [hy, bk_all]
    rw [hm] at q1 q2
    have h64 : (textL h).length = 64 := by unfold textL; rw [hexT_length]; simp [hh]
    change W.heap[T]? = some (.cells (arrB (textL h) 64) 5 (0, 0)) at q1
    change W.heap[G]? = some (.cells #[.slice (some ⟨T, 0, none⟩) (textL h).length 64] 34 (0, 0)) at q2
    have hbs : Bs W (some ⟨T, 0, none⟩) 64 (textL h) := ⟨by simp, by omega, by unfold maxLen; omega, (fun e => by cases e), fun j u hj => ⟨T, 0, rfl, by
      rw [Nat.zero_add, cell_of_row W T j _ _ _ q1, arrB_full _ _ h64]
      simpa using hj⟩⟩
    have hs := run_str (P := Tryd.prog) 34 9 5 Tryd.underlying34 Tryd.underlying5 Tryd.underlying9 hbs _ rfl
    have hcG : W.cell? ⟨G, 0, none⟩ = some (.slice (some ⟨T, 0, none⟩) (textL h).length 64) := by rw [cell_of_row W G 0 _ _ _ q2]; rfl
    clear hm hy h64 hbs q0 q1 q2 q3
    generalize (textL h).length = n at *
    generalize hS : strOf (textL h) = S at *
    gi_wp2
    refine ⟨by simp, .inl ⟨_, _, rfl, run_takeDeferred hK, ?_⟩⟩
    have hBD := hB.trans (belowK_b (w := W1) HG.out.2.1 W D _ (.deferred none) hD hK rfl rfl)
    exact ⟨_, results_tmp rfl _ _ _, by rw [hS]; rfl, f1.trans (Fr.of_below' hBD) (fun i hi hk => by have := HG.out; omega)⟩
  case stop =>
    rintro D c pre W hD hf hK
    exact hf.elim
end Go.Proofs.YtkppakhjfagdnaaDoor
