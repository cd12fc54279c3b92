/- Layer 8 (lock): the law LockBytes, walked. -/
import Derived.Test.YtigjoepoaahidaaRt
import Derived.Test.YtigjoepoaahidaaLkc
namespace Go.Proofs.Ytigjoepoaahidaa
set_option linter.unusedVariables false
set_option linter.unusedSimpArgs false
open Go.RowKit

/-- A block of bytes, whatever they are. -/
def Xs (n g : Nat) (w : World) : Prop := ∃ cur, w.heap[g]? = some (.cells cur 5 (0, 0)) ∧ ∀ i, i < n → ∃ z, cur[i]? = some (.int .u8 z)
theorem Xs.set {n g : Nat} {w : World} (h : Xs n g w) (j : Nat) (z : Int) : Xs n g (w.setCell ⟨g, j, none⟩ (.int .u8 z)) := by
  obtain ⟨cur, h1, h2⟩ := h
  refine ⟨cur.setIfInBounds j (.int .u8 z), by rw [heap_setCell_at, h1]; rfl, fun i hi => ?_⟩
  obtain ⟨y, hy⟩ := h2 i hi
  by_cases e : j = i
  · subst e
    exact ⟨z, by rw [Array.getElem?_setIfInBounds_self_of_lt (Array.getElem?_eq_some_iff.1 hy).1]⟩
  · exact ⟨y, by rw [Array.getElem?_setIfInBounds_ne e]; exact hy⟩
theorem Bs.frn7 {S : Nat → Prop} {w w' : World} {a : Option Addr} {c : Nat} {l : List UInt8} (h : Bs w a c l) (f : Fr S w w') (hs : l ≠ [] → ∀ b, ablk a = some b → ¬ S b) : Bs w' a c l :=
  Sl.frn h f fun hne => hs fun e => hne (by rw [e]; rfl)

theorem lkP_1 {A : List UInt8} (h : A.length = 20) (t : List UInt8) : lkP (lkB 1 A t) = (1, A, []) := by
  have e : lkB 1 A t = [118, 169, 20] ++ A ++ [136, 172] := by simp [lkB]
  have h3 : ([118, 169, 20] ++ A ++ [136, 172] : List UInt8).drop 3 = A ++ [136, 172] := by simp
  have h23 : ([118, 169, 20] ++ A ++ [136, 172] : List UInt8).drop 23 = [136, 172] := by
    rw [List.drop_append_of_le_length (by simp [h]), List.drop_of_length_le (by simp [h])]
    rfl
  rw [e, lkP, if_pos ⟨by simp [h], by simp, h23⟩, h3, List.take_append_of_le_length (by omega), List.take_of_length_le (by omega)]
theorem lkP_2 {A t : List UInt8} (h1 : t.length ≠ 0) (h2 : t.length ≤ 40) : lkP (106 :: UInt8.ofNat t.length :: t) = (2, zero20, t) := by
  have hm : (UInt8.ofNat t.length).toNat = t.length := by rw [UInt8.toNat_ofNat']; omega
  rw [lkP, if_neg ?_, if_pos ⟨by simp; omega, by simp; omega, rfl, by simp [List.getD, hm]⟩]
  · rfl
  · rintro ⟨_, h, _⟩
    simp at h

set_option maxRecDepth 100000 in
set_option maxHeartbeats 16000000 in
theorem lockBytes_any (HB : LBytesC) (HP : LParseC) (HKy : LKeyC) (HO : LOpenerC) (kind : Int) (A : List UInt8) (hA : A.length = 20) (t : List UInt8) (p : Option Addr) (c : Nat) (w : World) (ht : Bs w p c t) :
    Calls Try.prog 4 #[.int .i64 kind, .agg (A.map B8).toArray, .slice p t.length c] w fun e w' => e = .returned (.bool true) ∧ Fr F0 w w' := by
  have HL := Lib.hid (lives08_any HB)
  obtain ⟨n, hn⟩ : ∃ n, n = t.length := ⟨_, rfl⟩
  rw [← hn]
  replace hn := Lib.hid hn
  have HT := Lib.hid ht
  by_cases h100 : n ≤ 100
  · have l1 : ¬ (100 : Int) < (n : Int) := by omega
    have H1 := Lib.hid (fun a c w hw => HB kind A t a n c w hA hw hn.out (by have := hn.out; omega))
    have H2 := Lib.hid (fun w => HKy A w hA)
    have H3 := Lib.hid (fun a c w hw => HO (20 :: A) a 21 c w hw (by simp [hA]) (by simp [hA]))
    have eo : opO (20 :: A) = true := decide_eq_true ⟨by simp [hA], rfl⟩
    have ea : opA (20 :: A) = A := by rw [opA, eo]; rfl
    rw [eo, ea] at H3
    unfold NewBytes at H2
    rw [show (20 :: A : List UInt8).length = 21 by simp [hA]] at H2
    have H4 := Lib.hid (fun b a n c w hw hn hl => HP b a n c w hw hn hl)
    have b1 := fun w a n c => run_buildLk w #[(0, .int .i64 kind), (1, .agg (A.map B8).toArray), (2, .slice a n c)] _ (built_lk3 kind A hA a n c)
    have sx : (A.map B8).toArray.size = 20 := by simp [hA]
    have ox : rowOne (A.map B8).toArray := one_B8s _
    have HAA := Lib.hid hA
    generalize hXX : (A.map B8).toArray = X at *
    clear HB HP HKy HO ht eo ea hA
    go_enter Try.func4, Try.ntmps4
    go_wp2_with fail
    refine calls_new fun W1 N1 => ?_
    have r4 := N1.new
    have F := N1.fr
    clear N1
    obtain ⟨g4, hg4⟩ : ∃ g, g = w.heap.size := ⟨_, rfl⟩
    rw [← hg4] at r4 ⊢
    replace hg4 := Lib.hid hg4
    (with_reducible refine (HL.out _).mono ?_); rintro e w2 ⟨rfl, f⟩
    replace r4 := keep_fr f r4
    replace F := F.trans' f
    clear f
    have z2 := F.size
    have z4 := Lib.hid (Array.getElem?_eq_some_iff.1 r4).1
    have O0 : OwnB (w2.alloc (.cells #[] 5)) (.slice (some ⟨w2.heap.size, 0, none⟩) 0 0) [] := World.ownsRow_made w2 #[] 0 (Nat.zero_le _) (Nat.zero_le _) rfl
    have T1 := Lib.hid (Bs.fr7 HT.out (F.alloc (.cells #[] 5)))
    go_wp2_with (at_builtin; refine wpList_appBN n rfl _ _ rfl (.slice (some ⟨w2.heap.size, 0, none⟩) 0 0) [] rfl O0 _ _ _ t rfl T1.out hn.out (by simp [hn.out]) (by omega) ?_; intro ao co w3 ho hgr hbk; have HBK := Lib.hid hbk; clear hbk; have f3 := own_app (a := some ⟨w2.heap.size, 0, none⟩) (n := 0) (c := 0) (Fr.refl F0 w2) (fun k e => by cases e; exact Nat.le_refl _) hgr; replace r4 := keep_fr f3 r4)
    rw [List.nil_append] at ho
    have hbo := Lib.hid (OwnB.bs ho).2
    have HOw := Lib.hid ho
    replace F := F.trans' f3
    have bo : ∀ k, ablk ao = some k → w2.heap.size ≤ k := own_new (a := some ⟨w2.heap.size, 0, none⟩) (n := 0) (c := 0) (w := w2) ((Fr.refl F0 w2).alloc (.cells #[] 5)) (fun k e => by cases e; exact Nat.le_refl _) HBK.out
    clear ho hgr HBK O0 T1
    (with_reducible refine (H1.out _ _ _ hbo.out).mono ?_); rintro e w5 ⟨a8, n8, c8, rfl, hn8, hb8, f, k8⟩
    generalize hE : lkE kind t = E at *
    generalize hBB : lkB kind A t = B at *
    replace hE := Lib.hid hE
    replace hBB := Lib.hid hBB
    replace hn8 := Lib.hid hn8
    replace r4 := keep_fr f r4
    replace F := F.trans' f
    have ow5 := HOw.out.fr f (fun _ _ => id)
    have Hao : n ≠ 0 → ∃ g, ao = some ⟨g, 0, none⟩ := fun h0 => by
      rcases ow5.2 with ⟨e, h⟩ | ⟨g, cap, cur, e, _⟩
      · exact absurd (hn.out.trans h) h0
      · cases e; exact ⟨g, rfl⟩
    have HX : ∀ g, ablk ao = some g → Xs n g w5 := fun g hg => by
      rcases ow5.2 with ⟨e, h⟩ | ⟨g', cap, cur, e, _, hh, _, _, _, ht⟩
      · cases e; cases hg
      · cases e
        cases hg
        refine ⟨cur, hh, fun i hi => ?_⟩
        have hl : i < t.length := by have := hn.out; omega
        refine ⟨((t[i]).toNat : Int), ?_⟩
        have := congrArg (fun l => l[i]?) ht
        simp only [List.getElem?_map, List.getElem?_eq_getElem hl, Option.map_some] at this
        rw [List.getElem?_take] at this
        split at this
        · rw [← Array.getElem?_toList]; exact this
        · cases this
    have HHao := Lib.hid Hao
    have Hbo := Lib.hid bo
    have Hz2 := Lib.hid z2
    have hco : n ≤ co := by rw [hn.out]; exact hbo.out.room
    have Hk8 := Lib.hid k8
    have F5s := f.size
    have F35 := Lib.hid (Nat.le_trans f3.size (Nat.le_refl _))
    have Hlt : ∀ g, ablk ao = some g → g < w3.heap.size := fun g hg => HOw.out.lt g (by rw [ablk_own]; exact hg)
    replace Hlt := Lib.hid Hlt
    replace HX := Lib.hid HX
    replace F5s := Lib.hid F5s
    clear Hao bo z2 ow5 k8 f hbo f3
    go_wp2_with fail
    go_loopw [10, 35] (fun iv jv wr => ∃ j : Nat, j ≤ n ∧ jv = .int .i64 (j : Int) ∧ Hid (∀ g, ablk ao = some g → Xs n g wr) ∧ Fr (fun k => ablk ao = some k) w5 wr) (fun _ jv _ => n - (intOf jv).toNat)
    case atStart => exact ⟨0, Nat.zero_le _, rfl, HX, Fr.refl _ _⟩
    case round =>
      obtain ⟨j, hj, rfl, hx, fo⟩ := hrel
      by_cases hjn : j < n
      · obtain ⟨g, rfl⟩ := HHao.out (by omega)
        have HXg := Lib.hid (hx.out g rfl)
        obtain ⟨cur, hc1, hc2⟩ := HXg.out
        obtain ⟨z, hz⟩ := hc2 j hjn
        have cA : Obj.cellAt j wr.heap[g]? = some (.int .u8 z) := by rw [hc1, cellAt_cells]; exact hz
        have cF : Obj.frozenAt j wr.heap[g]? = false := by rw [hc1, frozenAt_cells]
        have h1 : (j : Int) < (n : Int) := by omega
        clear hc1 hc2 hz
        go_wp2_with fail
        refine ⟨⟨j + 1, by omega, rfl, ?_, ?_⟩, by simp [intOf]; omega⟩
        · intro g' hg'
          cases hg'
          exact HXg.out.set j _
        · exact fo.setCell (p := ⟨g, j, none⟩) (fun _ => rfl) _
      · have F6 : Fr F0 w wr := F.trans fo fun i hi hs => by have h1 := Hbo.out i hs; have h2 := Hz2.out; omega
        replace r4 := fo.keeps (fun e => by have h1 := Hbo.out g4 e; have h2 := z4.out; omega) r4
        have hb9 : Bs wr a8 c8 B := Sl.fr hb8 fo fun b hb hs => by have h1 := Hk8.out b hb; have h2 := Hlt.out b hs; omega
        have ht9 := Bs.fr7 HT.out F6
        clear fo hx hb8 F Hk8 Hlt Hbo Hz2 z4 HHao HX hco F5s F35 HOw H1 b1
        have h1 : ¬ (j : Int) < (n : Int) := by omega
        replace hb9 := Lib.hid hb9
        replace ht9 := Lib.hid ht9
        go_wp2_with fail
        (with_reducible refine (H2.out _).mono ?_); rintro e w7 ⟨a7, c7, rfl, hb7, f, k7⟩
        clear k7
        replace r4 := keep_fr f r4
        replace F6 := F6.trans' f
        replace hb9 := Lib.hid (Bs.fr7 hb9.out f)
        clear f ht9
        go_wp2_with fail
        (with_reducible refine (H3.out _ _ _ hb7).mono ?_); rintro e w8 ⟨rfl, f⟩
        replace r4 := keep_fr f r4
        replace F6 := F6.trans' f
        replace hb9 := Lib.hid (Bs.fr7 hb9.out f)
        clear f hb7 H3
        go_upto_region 11 with fail
        refine wp_put fun W9 N9 => ?_
        have r11 := N9.new
        have ne := N9.ne r4
        replace r4 := N9.old r4
        replace F6 := F6.trans' N9.fr
        replace hb9 := Lib.hid (Bs.fr7 hb9.out N9.fr)
        clear N9
        generalize w8.heap.size = g11 at *
        have hbA : Bs W9 (some ⟨g4, 0, none⟩) 20 A := by
          have r := r4
          rw [← hXX] at r
          have := Bs.of_row8 r (by unfold maxLen; have := HAA.out; omega)
          rw [HAA.out] at this
          exact this
        have HbA := Lib.hid hbA
        have eX : ∀ w, (Op.equalIn 10000 23 (.agg X) (.agg X)).run Try.prog w = .ok true w := fun w => by rw [← hXX, run_equalIn_address w A A HAA.out HAA.out]; simp
        have sA : (strOf A).size = 20 := by rw [strOf_size, HAA.out]
        have q1 : ((strOf (20 :: A)).toList == ((⟨#[20]⟩ : ByteArray) ++ strOf A).toList) = true := by
          rw [show (⟨#[20]⟩ : ByteArray) = strOf [20] from rfl, strOf_append, strOf_toL]
          simp
        clear hbA ne
        have H20 := Lib.hid (show 21 = (20 :: A).length by simp [HAA.out])
        have Hr := Lib.hid (And.intro r4 r11)
        clear r4 r11
        refine wp_region_noPanic ?_
        refine wp_region_held_drew (S := (fun w' => (w'.heap[g4]? = some (.cells X 23 (0, 0)) ∧ w'.heap[g11]? = some (.cells X 23 (0, 0))) ∧ (convert 24 9 (.slice (some ⟨g4, 0, none⟩) 20 20)).run Try.prog w' = .ok (.string (strOf A)) w' ∧ Fr F0 W9 w')) (by kernel_rfl) ?_ (fun hHeld => ?_)
        · ((try dsimp only) <;> (first | exact ⟨Hr.out, bs_str7 (Bs.fr7 HbA.out (Fr.refl F0 W9).drew) HAA.out.symm, (Fr.refl F0 W9).drew⟩ | exact hHeld | exact ⟨⟨keep_fr f5 hHeld.1.1, keep_fr f5 hHeld.1.2⟩, bs_str7 (Bs.fr7 HbA.out (hHeld.2.2.trans' f5)) HAA.out.symm, hHeld.2.2.trans' f5⟩))
        refine rtake 0 ?_
        refine rtake 1 ?_
        refine rtake 2 ?_
        refine rtake 3 ?_
        refine rtake 4 ?_
        refine rtake 5 ?_
        refine rtake 6 ?_
        refine rtake 7 ?_
        refine rtake 8 ?_
        refine rtake 11 ?_
        refine rtake 12 ?_
        refine rtake 13 ?_
        refine wpAnyH_ready (rs := [9]) (by kernel_rfl) (by simp) ?_
        refine AllReadyH.cons (o := ⟨_, _, _, _, _, _⟩) rfl (fun K hK => ?_) AllReadyH.nil
        go_simp
        ((with_reducible refine (H2.out _).mono ?_); rintro e w10 ⟨a10, c10, rfl, hb10, f5, k10⟩; have hs10 := bs_str7 hb10 H20.out; clear k10)
        refine hK.out _ _ ?_ (fun hHeld => ?_)
        · ((try dsimp only) <;> (first | exact ⟨Hr.out, bs_str7 (Bs.fr7 HbA.out (Fr.refl F0 W9).drew) HAA.out.symm, (Fr.refl F0 W9).drew⟩ | exact hHeld | exact ⟨⟨keep_fr f5 hHeld.1.1, keep_fr f5 hHeld.1.2⟩, bs_str7 (Bs.fr7 HbA.out (hHeld.2.2.trans' f5)) HAA.out.symm, hHeld.2.2.trans' f5⟩))
        clear hK K
        try (simp only [Act.put, List.setIfInBounds_toArray]; dsimp only [List.set_cons_zero, List.set_cons_succ])
        refine wpAnyH_ready (rs := [10]) (by kernel_rfl) (by simp) ?_
        refine AllReadyH.cons (o := ⟨_, _, _, _, _, _⟩) rfl (fun K hK => ?_) AllReadyH.nil
        go_simp
        refine hK.out _ _ ?_ (fun hHeld => ?_)
        · ((try dsimp only) <;> (first | exact ⟨Hr.out, bs_str7 (Bs.fr7 HbA.out (Fr.refl F0 W9).drew) HAA.out.symm, (Fr.refl F0 W9).drew⟩ | exact hHeld | exact ⟨⟨keep_fr f5 hHeld.1.1, keep_fr f5 hHeld.1.2⟩, bs_str7 (Bs.fr7 HbA.out (hHeld.2.2.trans' f5)) HAA.out.symm, hHeld.2.2.trans' f5⟩))
        clear hK K
        try (simp only [Act.put, List.setIfInBounds_toArray]; dsimp only [List.set_cons_zero, List.set_cons_succ])
        refine rtake 14 ?_
        refine rtake 15 ?_
        refine wpAnyH_done (by kernel_rfl) ?_ _
        refine NoPanic.normal ?_
        all_goals
          have F11 := F6.trans' hHeld.2.2
          replace hb9 := Lib.hid (Bs.fr7 hb9.out hHeld.2.2)
          have r4 := hHeld.1.1
          clear hs10 hb10 hHeld Hr HbA q1 sA F6
          by_cases k1 : kind = 1
          · subst k1
            have eB : B = lkB 1 A t := hBB.out.symm
            have eP : lkP B = (1, A, []) := by rw [eB]; exact lkP_1 HAA.out t
            have eE : E = 0 := hE.out.symm
            subst eE
            have hBl := Lib.hid (show B.length ≤ 1000 by rw [eB]; simp [lkB, HAA.out])
            have q2 : ((strOf B).toList == (strOf (payB A)).toList) = true := by
              rw [strOf_toL, eB]
              exact decide_eq_true rfl
            clear eB
            go_wp2_with fail
            (with_reducible refine (H4.out B a8 n8 c8 _ hb9.out hn8.out hBl.out).mono ?_); rintro e w12 ⟨a', n', c', rfl, hn', hb', f⟩
            rw [eP] at hn' hb' ⊢
            obtain rfl : n' = 0 := hn'
            replace F11 := F11.trans' f
            replace hb9 := Lib.hid (Bs.fr7 hb9.out f)
            replace r4 := keep_fr f r4
            clear f hb' eP
            have HLC := Lib.hid (LkC.of (k := 1) HAA.out (.slice a' 0 c'))
            have oC : rowOne (lkC 1 A (.slice a' 0 c')) := lkC_one
            have sC := HLC.out.size
            generalize lkC 1 A (.slice a' 0 c') = C at *
            go_upto_region 18 with fail
            refine wp_put fun W13 N13 => ?_
            have r13 := N13.new
            replace r4 := N13.old r4
            replace F11 := F11.trans' N13.fr
            replace hb9 := Lib.hid (Bs.fr7 hb9.out N13.fr)
            clear N13
            generalize w12.heap.size = g13 at *
            obtain ⟨_, kc0, kc21, kx1⟩ := HLC.out
            rw [hXX] at kx1
            have d0 := cell_is kc0 (by omega)
            have d21 := cell_is kc21 (by omega)
            have HPay := Lib.hid (pay08_any A HAA.out)
            rw [hXX] at HPay
            have Hr := Lib.hid (And.intro r4 r13)
            clear r4 r13
            go_upto_region 19 with fail
            refine wp_region_noPanic ?_
            refine wp_region_held_drew (S := (fun w' => (w'.heap[g4]? = some (.cells X 23 (0, 0)) ∧ w'.heap[g13]? = some (.cells C 30 (0, 0))) ∧ (convert 24 9 (.slice a8 n8 c8)).run Try.prog w' = .ok (.string (strOf B)) w' ∧ Fr F0 W13 w')) (by kernel_rfl) ?_ (fun hHeld => ?_)
            · ((try dsimp only) <;> (first | exact ⟨Hr.out, bs_str7 (Bs.fr7 hb9.out (Fr.refl F0 W13).drew) hn8.out, (Fr.refl F0 W13).drew⟩ | exact hHeld | exact ⟨⟨keep_fr f5 hHeld.1.1, keep_fr f5 hHeld.1.2⟩, bs_str7 (Bs.fr7 hb9.out (hHeld.2.2.trans' f5)) hn8.out, hHeld.2.2.trans' f5⟩))
            refine rtake 0 ?_
            refine rtake 1 ?_
            refine rtake 2 ?_
            refine rtake 3 ?_
            refine rtake 4 ?_
            refine rtake 5 ?_
            refine wpAnyH_ready (rs := [6]) (by kernel_rfl) (by simp) ?_
            refine AllReadyH.cons (o := ⟨_, _, _, _, _, _⟩) rfl (fun K hK => ?_) AllReadyH.nil
            go_simp
            ((with_reducible refine (HPay.out _).mono ?_); rintro e w14 ⟨rfl, f5⟩)
            refine hK.out _ _ ?_ (fun hHeld => ?_)
            · ((try dsimp only) <;> (first | exact ⟨Hr.out, bs_str7 (Bs.fr7 hb9.out (Fr.refl F0 W13).drew) hn8.out, (Fr.refl F0 W13).drew⟩ | exact hHeld | exact ⟨⟨keep_fr f5 hHeld.1.1, keep_fr f5 hHeld.1.2⟩, bs_str7 (Bs.fr7 hb9.out (hHeld.2.2.trans' f5)) hn8.out, hHeld.2.2.trans' f5⟩))
            clear hK K
            try (simp only [Act.put, List.setIfInBounds_toArray]; dsimp only [List.set_cons_zero, List.set_cons_succ])
            refine rtake 7 ?_
            refine rtake 8 ?_
            refine rtake 9 ?_
            refine rtake 10 ?_
            refine rtake 11 ?_
            refine rtake 12 ?_
            refine rtake 13 ?_
            refine rtake 14 ?_
            refine rtake 15 ?_
            refine rtake 16 ?_
            refine rtake 17 ?_
            refine rtake 18 ?_
            refine rtake 19 ?_
            refine rtake 20 ?_
            refine rtake 21 ?_
            refine rtake 22 ?_
            refine rtake 23 ?_
            refine rtake 24 ?_
            refine rtake 25 ?_
            refine rtake 26 ?_
            refine wpAnyH_done (by kernel_rfl) ?_ _
            refine NoPanic.normal ?_
            all_goals
              go_wp2
              go_ret
              exact ⟨by first | rfl | simp, F11.trans' hHeld.2.2⟩
          · by_cases k2 : kind = 2
            · subst k2
              by_cases hbad : n = 0 ∨ 40 < n
              · have eE : E = 3 := by rw [← hE.out, lkE, if_neg (by omega), if_pos rfl, if_pos (by have := hn.out; omega)]
                have eB : B = [] := by rw [← hBB.out, lkB, if_neg (by omega), if_neg (fun h => h.2 (by have := hn.out; omega))]
                subst eE
                have e8 : n8 = 0 := by rw [hn8.out, eB]; rfl
                subst e8
                rcases hbad with h0 | h0
                · have b0 : ((n : Int) == 0) = true := by subst h0; rfl
                  clear h0 k1 eB
                  go_wp2
                  go_ret
                  exact ⟨rfl, F11⟩
                · have b0 : ((n : Int) == 0) = false := beq_false_of_ne (by omega)
                  have b2 : (40 : Int) < (n : Int) := by omega
                  clear h0 k1 eB
                  go_wp2
                  go_ret
                  exact ⟨rfl, F11⟩
              · have eE : E = 0 := by rw [← hE.out, lkE, if_neg (by omega), if_pos rfl, if_neg (by have := hn.out; omega)]
                have eB : B = 106 :: UInt8.ofNat t.length :: t := by rw [← hBB.out, lkB2_eq (by have := hn.out; omega) (by have := hn.out; omega)]
                have eP : lkP B = (2, zero20, t) := by rw [eB]; exact lkP_2 (A := A) (by have := hn.out; omega) (by have := hn.out; omega)
                subst eE
                have hBl := Lib.hid (show B.length ≤ 1000 by rw [eB]; simp; have := hn.out; omega)
                have b0 : ((n : Int) == 0) = false := beq_false_of_ne (by omega)
                have b2 : ¬ (40 : Int) < (n : Int) := by omega
                have hBB2 := Lib.hid eB
                clear eB k1
                go_wp2_with fail
                (with_reducible refine (H4.out B a8 n8 c8 _ hb9.out hn8.out hBl.out).mono ?_); rintro e w12 ⟨a', n', c', rfl, hn', hb', f⟩
                rw [eP] at hn' hb' ⊢
                have hnn : n' = n := hn'.trans hn.out.symm
                clear hn'
                subst hnn
                replace F11 := F11.trans' f
                replace hb9 := Lib.hid (Bs.fr7 hb9.out f)
                replace r4 := keep_fr f r4
                clear f eP
                have HLC := Lib.hid (LkC.of (k := 2) (show zero20.length = 20 from rfl) (.slice a' n' c'))
                have oC : rowOne (lkC 2 zero20 (.slice a' n' c')) := lkC_one
                have sC := HLC.out.size
                generalize lkC 2 zero20 (.slice a' n' c') = C at *
                go_upto_region 18 with fail
                refine wp_put fun W13 N13 => ?_
                have r13 := N13.new
                replace F11 := F11.trans' N13.fr
                replace hb9 := Lib.hid (Bs.fr7 hb9.out N13.fr)
                replace hb' := Lib.hid (Bs.fr7 hb' N13.fr)
                clear N13 r4
                generalize w12.heap.size = g13 at *
                obtain ⟨_, kc0, kc21, kx1⟩ := HLC.out
                have d0 := cell_is kc0 (by omega)
                have d21 := cell_is kc21 (by omega)
                go_upto_region 20 with fail
                have hun : (UInt8.ofNat n').toNat = n' := by rw [UInt8.toNat_ofNat']; omega
                have hBw : Bs (W13.alloc (.cells #[.int .u8 106, .int .u8 (n' : Int)] 5)) (some ⟨W13.heap.size, 0, none⟩) 2 [106, UInt8.ofNat n'] := by
                  refine Bs.of_row8 (L := [106, UInt8.ofNat n']) (t := 5) (fr := (0, 0)) ?_ (by unfold maxLen; simp)
                  rw [heap_alloc_new]
                  simp [B8, hun]
                have x1 := bs_str7 hb9.out hn8.out
                have x2 := bs_str7 (n := 2) hBw rfl
                have x3 := bs_str7 (Bs.fr7 HT.out (F11.alloc (.cells #[.int .u8 106, .int .u8 (n' : Int)] 5))) hn.out
                have x4 := bs_str7 (Bs.fr7 hb'.out ((Fr.refl F0 W13).alloc (.cells #[.int .u8 106, .int .u8 (n' : Int)] 5))) hn.out
                have r13' := keep_alloc (o := .cells #[.int .u8 106, .int .u8 (n' : Int)] 5) r13
                have wn : IntKind.u8.wrap (n' : Int) = (n' : Int) := IntWalk.u8_in _ (by omega)
                have q3 : ((strOf B).toList == (strOf [106, UInt8.ofNat n'] ++ strOf t).toList) = true := by
                  rw [strOf_append, strOf_toL, hBB2.out, hn.out]
                  exact decide_eq_true rfl
                have sz1 : (strOf [106, UInt8.ofNat n']).size = 2 := by rw [strOf_size]; rfl
                have sz2 : (strOf t).size = n' := by rw [strOf_size]; exact hn.out.symm
                have hzb := fun w => run_buildAd w #[] _ built_ad0
                have ez : ∀ w, (Op.equalIn 10000 23 (.agg (zero20.map B8).toArray) (.agg (zero20.map B8).toArray)).run Try.prog w = .ok true w := fun w => by rw [run_equalIn_address w _ _ rfl rfl]; simp
                have F20 := Lib.hid (F11.alloc (.cells #[.int .u8 106, .int .u8 (n' : Int)] 5))
                clear hBw hun F11 hbad b0
                generalize strOf [106, UInt8.ofNat n'] = S1 at *
                generalize strOf t = S2 at *
                generalize strOf B = S3 at *
                generalize (zero20.map B8).toArray = Y at *
                go_wp2
                go_ret
                exact ⟨by first | rfl | simp, F20.out⟩
            · have eE : E = 1 := by rw [← hE.out, lkE, if_neg k1, if_neg k2]
              have eB : B = [] := by rw [← hBB.out, lkB, if_neg k1, if_neg (fun h => k2 h.1)]
              subst eE
              have e8 : n8 = 0 := by rw [hn8.out, eB]; rfl
              subst e8
              have b1 : (kind == 1) = false := beq_false_of_ne k1
              have b2 : (kind == 2) = false := beq_false_of_ne k2
              have b3 : (kind != 1) = true := bne_iff_ne.2 k1
              have b4 : (kind != 2) = true := bne_iff_ne.2 k2
              clear k1 k2 eB
              go_wp2
              go_ret
              exact ⟨rfl, F11⟩
  · have l1 : (100 : Int) < (n : Int) := by omega
    go_enter Try.func4, Try.ntmps4
    go_wp2_with fail
    refine calls_new fun W1 N1 => ?_
    have F := N1.fr
    clear N1
    (with_reducible refine (HL.out _).mono ?_); rintro e w1 ⟨rfl, f⟩
    replace F := F.trans' f
    clear f
    go_wp2_with fail
    (with_reducible refine (HL.out _).mono ?_); rintro e w2 ⟨rfl, f⟩
    go_wp2
    go_ret
    exact ⟨rfl, F.trans' f⟩
end Go.Proofs.Ytigjoepoaahidaa
