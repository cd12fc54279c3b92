/- The document's answer 03 (wide): the walk of Div. -/
import Derived.Test.YtgdnmmobnfjegaaRg
import Derived.Test.YtgdnmmobnfjegaaRc
namespace Go.Proofs.Ytgdnmmobnfjegaa
set_option linter.unusedVariables false
set_option linter.unusedSimpArgs false
open Go.RowKit

theorem keep_bit (j q : Nat) : 2 ^ (j + 1) * q = 2 ^ j * (q + q) := by rw [Nat.pow_succ, Nat.mul_assoc, Nat.two_mul]
theorem put_bit (V j q : Nat) (h : V = 2 ^ (j + 1) * q) : putw 1 V j 1 = 2 ^ j * (q + q + 1) := by
  have e : putw 1 V j 1 = V % 2 ^ (1 * j) + 2 ^ (1 * j) * (1 + 2 ^ 1 * (V / 2 ^ (1 * (j + 1)))) := rfl
  rw [e, Nat.one_mul, Nat.one_mul, h, Nat.mul_div_cancel_left _ (Nat.two_pow_pos _), Nat.pow_succ, Nat.mul_assoc, Nat.mul_mod_right, Nat.zero_add]
  congr 1
  omega

set_option maxRecDepth 100000 in
set_option maxHeartbeats 8000000 in
theorem r3Div_any (x y : Nat) (a1 : Option Addr) (c1 : Nat) (a2 : Option Addr) (c2 : Nat) (hy0 : 0 < y) (hlx : lg x ≤ 5000) (hl : ∀ z, z < y + y → lg z ≤ 10000) (w : World) (hx : Ns w a1 c1 x) (hy : Ns w a2 c2 y) :
    Calls Try.prog 33 #[.slice a1 (lg x) c1, .slice a2 (lg y) c2] w fun e w' => ∃ a3 c3 a4 c4, e = .returned (.tuple #[.slice a3 (lg (x / y)) c3, .slice a4 (lg (x % y)) c4]) ∧ Ns w' a3 c3 (x / y) ∧ Ns w' a4 c4 (x % y) ∧ Fr F0 w w' := by
  have HL := Lib.hid hl
  have HY := Lib.hid hy
  have HLY := Lib.hid (hl y (by omega))
  have HB := Lib.hid (r3Bits_any x a1 c1 (by omega) w hx)
  have hnb : nbits x ≤ 80000 := nbits_lg hlx
  have HNB := Lib.hid ((nbits_le x (nbits x)).1 (Nat.le_refl _))
  have HLD := Lib.hid (Nat.le_trans (lg_min (Nat.lt_of_le_of_lt (Nat.div_le_self x y) (lg_lt x))) hlx)
  clear hx hy hl hlx
  generalize nbits x = n at *
  have hmk := fun w => run_make_U n (n : Int) rfl (by omega) w
  go_enter Try.func33, Try.ntmps33
  go_wp2_with fail
  (with_reducible refine HB.out.mono ?_)
  rintro e w1 ⟨a5, c5, rfl, hb, f1⟩
  have HBS := Lib.hid hb
  have HF1 := Lib.hid f1
  clear hb HB
  go_wp2_with fail
  clear hmk
  obtain ⟨W2, hW⟩ : ∃ W, W = (w1.alloc (.cells (rowN .u64 1 n 0) 22)).alloc (.cells #[] 22) := ⟨_, rfl⟩
  refine wp_of_world W2 hW ?_
  have r1 : W2.heap[w1.heap.size]? = some (.cells (rowN .u64 1 n 0) 22 (0, 0)) := by rw [hW]; exact heap_alloc2_old _ _ _
  have f2 : Fr F0 w1 W2 := by rw [hW]; exact ((Fr.refl F0 w1).alloc _).alloc _
  have n0 : Us W2 (some ⟨w1.heap.size + 1, 0, none⟩) 0 [] := by
    rw [hW]
    obtain ⟨a, c, e, ho, _⟩ := Row.nil (w1.alloc (.cells (rowN .u64 1 n 0) 22)) 0
    cases e
    have := ho.us.2
    rwa [World.size_alloc] at this
  clear hW
  generalize w1.heap.size + 1 = g' at *
  generalize hgg : w1.heap.size = g at *
  have HGS := Lib.hid hgg
  clear hgg f1
  go_loopw [8, 9] (fun ov iv wr => ∃ k : Nat, k ≤ n ∧ iv = .int .i64 ((k : Int) - 1) ∧ (∃ a' c', ov = .slice a' (lg (x / 2 ^ k % y)) c' ∧ Ns wr a' c' (x / 2 ^ k % y)) ∧ wr.heap[g]? = some (.cells (rowN .u64 1 n (2 ^ k * (x / 2 ^ k / y))) 22 (0, 0)) ∧ Fr F0 w1 wr) (fun _ iv _ => (intOf iv + 1).toNat)
  case atStart =>
    refine ⟨n, Nat.le_refl _, rfl, ⟨_, _, by rw [Nat.div_eq_of_lt HNB.out, Nat.zero_mod, lg_zero], ?_⟩, ?_, f2⟩
    · rw [Nat.div_eq_of_lt HNB.out, Nat.zero_mod]; exact n0
    · rw [Nat.div_eq_of_lt HNB.out, Nat.zero_div, Nat.mul_zero]; exact r1
  case round =>
    clear r1 n0 f2
    obtain ⟨k, hk, rfl, ⟨a3, c3, rfl, hn3⟩, r1, hf⟩ := hrel
    cases k with
    | zero =>
      rw [Nat.pow_zero, Nat.div_one, Nat.one_mul] at r1
      rw [Nat.pow_zero, Nat.div_one] at hn3 ⊢
      have HQ := Lib.hid (r3FromBits_any (x / y) n (some ⟨g, 0, none⟩) n (Nat.lt_of_le_of_lt (Nat.div_le_self _ _) HNB.out) (by omega) (Nat.le_trans HLD.out (by omega)) wr (Us.of_bits r1 (by omega)))
      go_wp2_with fail
      (with_reducible refine HQ.out.mono ?_)
      rintro e w9 ⟨a9, c9, rfl, n9, f9⟩
      have n4 := hn3.fr f9
      go_wp2_with fail
      go_ret2
      exact ⟨a9, c9, a3, c3, rfl, n9, n4, HF1.out.trans' (hf.trans' f9)⟩
    | succ j =>
      obtain ⟨b, off, ea, hc⟩ := (HBS.out.fr hf).get j (by rw [bs_length]; omega)
      rw [bs_getD _ _ _ (by omega)] at hc
      subst ea
      have hst := bit_step x j
      have hb2 := bit_lt x j
      generalize dgt 1 x j = d at *
      have hds := rdiv_step (x / 2 ^ (j + 1)) y d hy0 hb2
      rw [← hst] at hds
      have hRy := Nat.mod_lt (x / 2 ^ (j + 1)) hy0
      have HV := Lib.hid (rfl : 2 ^ (j + 1) * (x / 2 ^ (j + 1) / y) = 2 ^ (j + 1) * (x / 2 ^ (j + 1) / y))
      generalize x / 2 ^ (j + 1) % y = R at *
      generalize hV : 2 ^ (j + 1) * (x / 2 ^ (j + 1) / y) = V at *
      replace HV := Lib.hid hV.symm
      clear hV
      generalize x / 2 ^ (j + 1) / y = q at *
      have HA := Lib.hid (r3Add_any R R a3 c3 a3 c3 (HL.out R (by omega)) (HL.out R (by omega)) wr hn3 hn3)
      have hl2 := HL.out (R + R) (by omega)
      have lj : (j : Int) < (n : Int) := by omega
      have ljn : j < n := by omega
      have hj : j ≤ 80000 := by omega
      have HF := Lib.hid hf
      have HG := Lib.hid hds
      rw [show ((j + 1 : Nat) : Int) - 1 = (j : Int) by omega]
      clear hn3 hf hds hk
      have hd : d = 1 ∨ d = 0 := by omega
      rcases hd with rfl | rfl
      · clear hb2
        have HST := Lib.hid hst
        clear hst
        go_wp2_with fail
        (with_reducible refine HA.out.mono ?_)
        rintro e w5 ⟨a6, c6, rfl, n6, f6⟩
        have hc5 : Obj.cellAt (off + j) w5.heap[b]? = some (.int .u64 ((1 : Nat) : Int)) := by
          rw [← cell_at]; rw [← cell_at] at hc
          exact f6.cell (fun f => f) hc
        clear hc
        generalize hq : lg (R + R) = q6 at *
        have HQ := Lib.hid hq
        clear hq
        go_wp2_with fail
        have h6 := r3Add_one (R + R) a6 c6 _ 1 (by rw [HQ.out]; exact hl2) _ (n6.fr ((Fr.refl F0 w5).alloc (.cells #[.int .u64 ((1 : Nat) : Int)] 22))) (Us.of_new w5 1)
        rw [HQ.out] at h6
        rw [show ((1 : Nat) : Int) = 1 from rfl] at h6
        (with_reducible refine h6.mono ?_)
        rintro e w7 ⟨a7, c7, rfl, n7, f7⟩
        have FR := f6.trans' (((Fr.refl F0 w5).alloc _).trans' f7)
        have F7 := HF.out.trans' FR
        clear f6 f7 n6 h6 hl2
        generalize ht : R + R + 1 = t at *
        have htl : t < y + y := by omega
        have hcz : (0 ≤ cmpZ t y) = (y ≤ t) := by unfold cmpZ; apply propext; split <;> (try split) <;> omega
        have HC := Lib.hid (r3Cmp_any t y a7 c7 a2 c2 (HL.out t (by omega)) HLY.out w7 n7 (HY.out.fr (HF1.out.trans' F7)))
        have HCZ := Lib.hid hcz
        have HS := fun h => Lib.hid (r3Sub_new t y a7 c7 a2 c2 (HL.out t (by omega)) h w7 n7 (HY.out.fr (HF1.out.trans' F7)))
        have hr7 := keep_fr FR r1
        have HF7 := Lib.hid F7
        have HN7 := Lib.hid n7
        clear F7 hcz FR r1 n7
        generalize hlt : lg t = lt at *
        have HT := Lib.hid hlt
        clear hlt
        by_cases hge : y ≤ t
        · have lz : (0 : Int) ≤ cmpZ t y := by rw [HCZ.out]; exact hge
          have HS := HS hge
          obtain ⟨g1, g2⟩ := HG.out.1 hge
          generalize cmpZ t y = z at *
          have HGE := Lib.hid (And.intro g1 g2)
          clear g1 g2 hge HCZ
          go_wp2_with fail
          (with_reducible refine HC.out.mono ?_)
          rintro e w8 ⟨rfl, hw⟩
          have hw := hw.symm
          subst hw
          go_wp2_with fail
          (with_reducible refine HS.out.mono ?_)
          rintro e w9 ⟨a9, c9, rfl, n9, hnew, f9⟩
          have hgl := (Array.getElem?_eq_some_iff.1 hr7).1
          have n9' := Sl.fr n9 ((Fr.refl (fun k => k = g) w9).setCell (p := ⟨g, j, none⟩) (fun _ => rfl) (.int .u64 1)) (fun b hb e => by have := hnew b hb; omega)
          have hr9 := keep_fr f9 hr7
          have F9 := HF7.out.trans' f9
          generalize hl9 : lg (t - y) = l9 at *
          have HT9 := Lib.hid hl9
          have HN9 := Lib.hid n9'
          clear hl9 hr7 hgl hnew n9 n9'
          go_wp2_with fail
          go_roundw
          case rel =>
            refine ⟨j, by omega, rfl, ⟨a9, c9, by rw [HGE.out.2, HT9.out], by rw [HGE.out.2]; exact HN9.out⟩, ?_, ?_⟩
            · have := rowN_set .u64 1 n V j 1 (by omega)
              rw [show ((1 : Nat) : Int) = 1 from rfl] at this
              rw [heap_setCell_at, hr9, withCell_cells, this, put_bit V j _ HV.out, HGE.out.1]
            · exact F9.setCell (p := ⟨g, j, none⟩) (fun h => by have h' : g < w1.heap.size := h; have := HGS.out; omega) _
          case measure => simp [intOf]
        · have lz : ¬ (0 : Int) ≤ cmpZ t y := by rw [HCZ.out]; exact hge
          obtain ⟨g1, g2⟩ := HG.out.2 (by omega)
          generalize cmpZ t y = z at *
          have HGE := Lib.hid (And.intro g1 g2)
          clear g1 g2 hge HCZ HS
          go_wp2_with fail
          (with_reducible refine HC.out.mono ?_)
          rintro e w8 ⟨rfl, hw⟩
          have hw := hw.symm
          subst hw
          go_wp2_with fail
          go_roundw
          case rel =>
            refine ⟨j, by omega, rfl, ⟨a7, c7, by rw [HGE.out.2, HT.out], by rw [HGE.out.2]; exact HN7.out⟩, ?_, HF7.out⟩
            rw [HGE.out.1, hr7, HV.out, keep_bit]
          case measure => simp [intOf]
      · clear hb2
        have HST := Lib.hid hst
        clear hst
        simp only [Nat.add_zero] at HG HST
        go_wp2_with fail
        (with_reducible refine HA.out.mono ?_)
        rintro e w7 ⟨a7, c7, rfl, n7, FR⟩
        have hc5 : Obj.cellAt (off + j) w7.heap[b]? = some (.int .u64 ((0 : Nat) : Int)) := by
          rw [← cell_at]; rw [← cell_at] at hc
          exact FR.cell (fun f => f) hc
        clear hc
        have F7 := HF.out.trans' FR
        generalize ht : R + R = t at *
        have htl : t < y + y := by omega
        have hcz : (0 ≤ cmpZ t y) = (y ≤ t) := by unfold cmpZ; apply propext; split <;> (try split) <;> omega
        have HC := Lib.hid (r3Cmp_any t y a7 c7 a2 c2 (HL.out t (by omega)) HLY.out w7 n7 (HY.out.fr (HF1.out.trans' F7)))
        have HCZ := Lib.hid hcz
        have HS := fun h => Lib.hid (r3Sub_new t y a7 c7 a2 c2 (HL.out t (by omega)) h w7 n7 (HY.out.fr (HF1.out.trans' F7)))
        have hr7 := keep_fr FR r1
        have HF7 := Lib.hid F7
        have HN7 := Lib.hid n7
        clear F7 hcz FR r1 n7
        generalize hlt : lg t = lt at *
        have HT := Lib.hid hlt
        clear hlt
        by_cases hge : y ≤ t
        · have lz : (0 : Int) ≤ cmpZ t y := by rw [HCZ.out]; exact hge
          have HS := HS hge
          obtain ⟨g1, g2⟩ := HG.out.1 hge
          generalize cmpZ t y = z at *
          have HGE := Lib.hid (And.intro g1 g2)
          clear g1 g2 hge HCZ
          go_wp2_with fail
          (with_reducible refine HC.out.mono ?_)
          rintro e w8 ⟨rfl, hw⟩
          have hw := hw.symm
          subst hw
          go_wp2_with fail
          (with_reducible refine HS.out.mono ?_)
          rintro e w9 ⟨a9, c9, rfl, n9, hnew, f9⟩
          have hgl := (Array.getElem?_eq_some_iff.1 hr7).1
          have n9' := Sl.fr n9 ((Fr.refl (fun k => k = g) w9).setCell (p := ⟨g, j, none⟩) (fun _ => rfl) (.int .u64 1)) (fun b hb e => by have := hnew b hb; omega)
          have hr9 := keep_fr f9 hr7
          have F9 := HF7.out.trans' f9
          generalize hl9 : lg (t - y) = l9 at *
          have HT9 := Lib.hid hl9
          have HN9 := Lib.hid n9'
          clear hl9 hr7 hgl hnew n9 n9'
          go_wp2_with fail
          go_roundw
          case rel =>
            refine ⟨j, by omega, rfl, ⟨a9, c9, by rw [HGE.out.2, HT9.out], by rw [HGE.out.2]; exact HN9.out⟩, ?_, ?_⟩
            · have := rowN_set .u64 1 n V j 1 (by omega)
              rw [show ((1 : Nat) : Int) = 1 from rfl] at this
              rw [heap_setCell_at, hr9, withCell_cells, this, put_bit V j _ HV.out, HGE.out.1]
            · exact F9.setCell (p := ⟨g, j, none⟩) (fun h => by have h' : g < w1.heap.size := h; have := HGS.out; omega) _
          case measure => simp [intOf]
        · have lz : ¬ (0 : Int) ≤ cmpZ t y := by rw [HCZ.out]; exact hge
          obtain ⟨g1, g2⟩ := HG.out.2 (by omega)
          generalize cmpZ t y = z at *
          have HGE := Lib.hid (And.intro g1 g2)
          clear g1 g2 hge HCZ HS
          go_wp2_with fail
          (with_reducible refine HC.out.mono ?_)
          rintro e w8 ⟨rfl, hw⟩
          have hw := hw.symm
          subst hw
          go_wp2_with fail
          go_roundw
          case rel =>
            refine ⟨j, by omega, rfl, ⟨a7, c7, by rw [HGE.out.2, HT.out], by rw [HGE.out.2]; exact HN7.out⟩, ?_, HF7.out⟩
            rw [HGE.out.1, hr7, HV.out, keep_bit]
          case measure => simp [intOf]
end Go.Proofs.Ytgdnmmobnfjegaa
