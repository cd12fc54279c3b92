/- Layer 4's law MoneyTexts, walked. -/
import Derived.Test.YtmebilpmhflahaaDoorTp
namespace Go.Proofs.YtmebilpmhflahaaDoor
set_option linter.unusedVariables false
set_option linter.unusedSimpArgs false
open Go.RowKit

theorem Pw10.fr {w w' : World} (h : Pw10 w) (f : Fr F0 w w') : Pw10 w' := Lib.tabBelow_of_tabIs h w' (f.below (Nat.le_refl _) fun _ _ k => k)

theorem nval_lt : ∀ (n : Nat) (l : List UInt8), l.length = n → l.all dg1 = true → nval l < 10 ^ n
  | 0, l, hn, _ => by
    obtain rfl := List.eq_nil_of_length_eq_zero hn
    decide
  | n + 1, l, hn, h => by
    obtain ⟨m, c, rfl⟩ : ∃ m c, l = m ++ [c] := ⟨l.dropLast, l.getLast (by intro e; subst e; cases hn), (List.dropLast_concat_getLast _).symm⟩
    rw [List.all_append, Bool.and_eq_true] at h
    have h1 := nval_lt n m (by simpa using hn) h.1
    have h2 := dg1_of (show dg1 c = true by simpa using h.2)
    rw [nval_snoc, Nat.pow_succ]
    omega
theorem ten_fits : 10 ^ 61 + 10 < W256 := by
  show 10 ^ 61 + 10 < 2 ^ 256
  decide +kernel
theorem nval_fits (l : List UInt8) (hn : l.length ≤ 60) (h : l.all dg1 = true) : nval l * 10 + 10 < W256 := by
  have h1 := nval_lt _ l rfl h
  have h2 : 10 ^ l.length ≤ 10 ^ 60 := Nat.pow_le_pow_right (by omega) hn
  have h3 := ten_fits
  rw [show 10 ^ 61 = 10 ^ 60 * 10 from rfl] at h3
  generalize 10 ^ 60 = t at *
  omega
theorem wp_inBlock {P : Program} {c : Code} {n : Nat} {K : Act → World → Prop} {Q : Exit → Act → World → Prop} {a : Act} {w : World} (h : Code.wp P c (Exit.then K fun _ _ _ => False) a w) : Code.wp P c (Exit.inBlock n (Exit.then K Q)) a w :=
  Code.wp_mono (fun e a w k => by cases e <;> first | exact k | exact k.elim) h
theorem all_take {l : List UInt8} (h : l.all dg1 = true) (k : Nat) : (l.take k).all dg1 = true := by
  rw [List.all_eq_true] at *
  intro x hx
  exact h x (List.mem_of_mem_take hx)

set_option maxRecDepth 100000 in
set_option maxHeartbeats 16000000 in
theorem moneyTexts_any (x : Nat) (hx : x < 18446744073709551616) (l : List UInt8) (a : Option Addr) (c : Nat) (w : World) (hu : Bs w a c l) (ht : Pw10 w) :
    Calls Tryd.prog 3 #[.int .u64 (x : Int), .slice a l.length c] w fun e w' => e = .returned (.bool true) ∧ Fr F0 w w' := by
  have HL := Lib.hid lives04_any
  have HPw := Lib.hid ht
  have HU := Lib.hid hu
  have hroom := hu.room
  have hmost := hu.most
  unfold maxLen at hmost
  clear ht hu
  obtain ⟨n, hn⟩ : ∃ n, n = l.length := ⟨_, rfl⟩
  rw [← hn] at hroom ⊢
  by_cases h60 : n ≤ 60
  · have HT := Lib.hid (fun w h => aText_any x hx w h)
    obtain ⟨t, htx⟩ : ∃ t, t = Lib.decDigits x := ⟨_, rfl⟩
    have hti : isNum t = true := by rw [htx]; exact isNum_dec x
    have htv : nval t = x := by rw [htx]; exact nval_dec x x (Nat.le_refl _)
    have HPt := Lib.hid (fun a c w h => mParse_any t a c w h)
    have HPl := Lib.hid (fun w h => mParse_any l a c w h)
    rw [← htx] at HT
    rw [← hn] at HPl
    have HE : RowKit.Hid ((4611686018427387904 < x ∧ rdE t = 4) ∨ (x ≤ 4611686018427387904 ∧ rdE t = 0 ∧ rdV t = x)) := Lib.hid (by
      rcases Nat.lt_or_ge 4611686018427387904 x with h | h
      · exact .inl ⟨h, (rd_over hti (by omega)).2⟩
      · have := rd_fit hti (by omega)
        exact .inr ⟨h, this.2, by rw [this.1, htv]⟩)
    clear htx hti htv hx
    generalize ht : t.length = nt at *
    clear ht
    generalize rdV t = V1 at *
    generalize rdE t = E1 at *
    have HN := Lib.hid hn
    obtain ⟨V, hV⟩ : ∃ V, V = rdV l := ⟨_, rfl⟩
    obtain ⟨E, hE⟩ : ∃ E, E = rdE l := ⟨_, rfl⟩
    rw [← hV, ← hE] at HPl
    have HVE := Lib.hid (And.intro hV hE)
    clear hV hE hn
    have l1 : ¬ (60 : Int) < (n : Int) := by omega
    go_enter Tryd.func3, Tryd.ntmps3
    go_wp2_with fail
    (with_reducible refine (HL.out _).mono ?_); rintro e w1 ⟨rfl, F⟩
    go_wp2_with fail
    (with_reducible refine (HT.out _ (HPw.out.fr F)).mono ?_); rintro e w2 ⟨a2, c2, rfl, hb2, f⟩
    replace F := F.trans' f
    have HB2 := Lib.hid (HPt.out a2 c2 w2 hb2)
    clear f hb2 HPt HT
    go_wp2_with fail
    (with_reducible refine HB2.out.mono ?_); rintro e w3 ⟨rfl, hw⟩; replace hw := hw.symm; subst hw
    clear HB2
    go_upto_region 5 with fail
    refine mt5 _ x V1 E1 HE.out (Lib.hid ?_)
    rename_i w4
    rintro ⟨rfl, hw⟩; replace hw := hw.symm; subst hw
    have HP := Lib.hid (HPl.out _ (HU.out.fr F))
    clear HPl
    go_wp2_with fail
    (with_reducible refine HP.out.mono ?_); rintro e w5 ⟨rfl, hw⟩; replace hw := hw.symm; subst hw
    clear HP
    go_upto_region 8 with fail
    obtain ⟨H, hH⟩ : ∃ H, H = headOk l := ⟨_, rfl⟩
    refine mt8 _ l a n c HN.out H hH (HU.out.fr F) (Lib.hid ?_)
    rename_i w6
    rintro ⟨rfl, hw⟩; replace hw := hw.symm; subst hw
    have HH := Lib.hid hH
    clear hH
    go_wp2_with fail
    go_loopw [10, 71] (fun dv iv wr => wr = w2 ∧ ∃ k : Nat, k ≤ n ∧ iv = .int .i64 (k : Int) ∧ ∃ D : Bool, dv = .bool D ∧ D = (H && (l.take k).all dg1)) (fun _ iv _ => n - (intOf iv).toNat)
    case atStart => exact ⟨rfl, 0, by omega, rfl, H, rfl, by simp⟩
    case round =>
      obtain ⟨rfl, k, hk, rfl, D, rfl, hD⟩ := hrel
      by_cases hlt : k < n
      · have hlt' : k < l.length := by have := HN.out; omega
        obtain ⟨b, off, rfl, hc⟩ := (HU.out.fr F).get k hlt'
        have hT := all_take_succ l k hlt'
        have lk : (k : Int) < (n : Int) := by omega
        have hD2 : (H && (l.take (k + 1)).all dg1) = (D && dg1 (l.getD k 0)) := by rw [hT, hD, Bool.and_assoc]
        obtain ⟨y, hy⟩ : ∃ y, y = (l.getD k 0).toNat := ⟨_, rfl⟩
        rw [← hy] at hc
        have HY := Lib.hid (And.intro hy hD2)
        clear hT hD hD2 hy hlt'
        go_upto_region 12 with fail
        refine wp_inBlock (mt12 _ (l.getD k 0) y HY.out.1 D _ HY.out.2 (Lib.hid ?_))
        rename_i w7
        rintro ⟨rfl, hw⟩; replace hw := hw.symm; subst hw
        go_wp2_with fail
        go_roundw
        case rel => exact ⟨trivial, k + 1, by omega, by go_num, _, rfl, rfl⟩
        case measure => simp [intOf]; omega
      · obtain rfl : n = k := by omega
        rw [HN.out, List.take_length, HH.out] at hD
        replace hD : D = isNum l := hD
        have HD := Lib.hid hD
        clear hD
        cases D
        · have hr := rd_not HD.out.symm
          obtain ⟨rfl, rfl⟩ : V = 0 ∧ E = 2 := by rw [HVE.out.1, HVE.out.2]; exact hr
          clear hr
          go_wp2_with fail
          go_ret
          exact ⟨rfl, F⟩
        · have HA := Lib.hid (num_all HD.out.symm)
          have hfit := nval_fits l (by rw [← HN.out]; exact h60) HA.out
          have HF := Lib.hid hfit
          clear hfit
          go_wp2_with fail
          go_loopw [13, 95] (fun nv iv w3 => ∃ k : Nat, k ≤ n ∧ iv = .int .i64 (k : Int) ∧ (∃ p c', nv = .slice p (lg (nval (l.take k))) c' ∧ Ns w3 p c' (nval (l.take k))) ∧ Fr F0 w w3) (fun _ iv _ => n - (intOf iv).toNat)
          case atStart => exact ⟨0, by omega, rfl, ⟨none, 0, rfl, Sl.nothing _ _⟩, F⟩
          case round =>
            clear F
            rename_i w3
            obtain ⟨k, hk, rfl, ⟨p, c', rfl, hN⟩, F⟩ := hrel
            by_cases hlt : k < n
            · have hlt' : k < l.length := by have := HN.out; omega
              obtain ⟨b, off, rfl, hc⟩ := (HU.out.fr F).get k hlt'
              have hT := nval_take_succ l k hlt'
              have hW := nval_take l (k + 1)
              have hW' := nval_take l k
              have hd := dg1_of (all_at HA.out k hlt')
              have lk : (k : Int) < (n : Int) := by omega
              have hV4 : nval (l.take k) * 10 + 10 < W256 := by have := HF.out; omega
              obtain ⟨y, hy⟩ : ∃ y, y = (l.getD k 0).toNat := ⟨_, rfl⟩
              rw [← hy] at hc hT hd
              obtain ⟨d, hyd⟩ : ∃ d, y = 48 + d := ⟨y - 48, by omega⟩
              have hT' : nval (l.take (k + 1)) = nval (l.take k) * 10 + d := by omega
              have hd10 : d < 10 := by omega
              have HX := Lib.hid (And.intro hyd (And.intro hT' (And.intro hd10 (And.intro hV4 hN))))
              clear hT hW hW' hd hy hyd hT' hd10 hV4 hN hlt'
              generalize nval (l.take k) = v at *
              generalize hlv : lg v = lv at *
              have HLv := Lib.hid hlv
              clear hlv
              go_upto_region 20 with fail
              refine wp_inBlock (mt20 _ v d y (nval (l.take (k + 1))) lv _ c' p HLv.out rfl HX.out.2.2.1 HX.out.1 HX.out.2.1 HX.out.2.2.2.1 HX.out.2.2.2.2 (Lib.hid ?_))
              rename_i w8
              rintro ⟨p8, c8, rfl, n8, f⟩
              replace F := F.trans' f
              have HN8 := Lib.hid n8
              clear f n8
              go_wp2_with fail
              go_roundw
              case rel => exact ⟨k + 1, by omega, by go_num, ⟨_, _, rfl, HN8.out⟩, F⟩
              case measure => simp [intOf]; omega
            · obtain rfl : n = k := by omega
              rw [HN.out, List.take_length] at hN
              rw [show l.take n = l by rw [HN.out, List.take_length]]
              have hMw : 4611686018427387904 < W256 := Nat.lt_of_lt_of_le (by omega) (Nat.pow_le_pow_right (n := 2) (i := 64) (by omega) (by omega))
              have HOm := Lib.hid (fun w => show Calls Tryd.prog 9 #[.agg (rowN .u64 64 4 4611686018427387904)] w fun e w' => NN 4611686018427387904 w e w' from r3Of_any 4611686018427387904 hMw w)
              have HCm := Lib.hid (fun p1 c1 p2 c2 w h1 h2 => r3Cmp_any (nval l) 4611686018427387904 p1 c1 p2 c2 (Nat.le_trans (lgw (z := nval l) (by have := HF.out; omega)) (by omega)) (Nat.le_trans (lgw hMw) (by omega)) w h1 h2)
              have hsm : (rowN .u64 64 4 0).setIfInBounds 0 (.int .u64 4611686018427387904) = rowN .u64 64 4 4611686018427387904 := set_firstT 4611686018427387904 (by omega)
              have hbn := rowN_nil4 0
              have HNN := Lib.hid hN
              have hcase : RowKit.Hid ((cmpZ (nval l) 4611686018427387904 = 1 ∧ V = 0 ∧ E = 4) ∨ (¬ (0 : Int) < cmpZ (nval l) 4611686018427387904 ∧ V = nval l ∧ E = 0 ∧ nval l ≤ 4611686018427387904)) := Lib.hid (by
                rw [HVE.out.1, HVE.out.2]
                unfold cmpZ
                rcases Nat.lt_or_ge 4611686018427387904 (nval l) with h | h
                · have hr := rd_over HD.out.symm h
                  exact .inl ⟨by rw [if_neg (by omega), if_pos h], hr.1, hr.2⟩
                · have hr := rd_fit HD.out.symm h
                  refine .inr ⟨?_, hr.1, hr.2, h⟩
                  split
                  · omega
                  · rw [if_neg (by omega)]; omega)
              clear hMw hN
              generalize cmpZ (nval l) 4611686018427387904 = Z at *
              generalize hlq : lg (nval l) = lq at *
              clear hlq
              go_wp2_with fail
              (with_reducible refine (HOm.out _).mono ?_); rintro e w4 ⟨p4, c4, rfl, n4, f⟩
              replace F := F.trans' f
              have hcm := Lib.hid (HCm.out p c' p4 c4 w4 (Us.fr HNN.out f) n4)
              clear f n4 HNN
              go_wp2_with fail
              (with_reducible refine hcm.out.mono ?_); rintro e w5 ⟨rfl, hw⟩; replace hw := hw.symm; subst hw
              clear hcm HCm
              rcases hcase.out with ⟨rfl, rfl, rfl⟩ | ⟨hz, hv, rfl, hm⟩
              · go_wp2_with fail
                go_ret
                exact ⟨rfl, F⟩
              · have HT2 : RowKit.Hid (∀ w', Fr F0 w4 w' → Calls Tryd.prog 5 #[.int .u64 (V : Int)] w' fun e w2 => ∃ a c, e = .returned (.slice a n c) ∧ Bs w2 a c l ∧ Fr F0 w' w2) := Lib.hid (fun w' f' => by
                  have h := aText_any V (by omega) w' (HPw.out.fr (F.trans' f'))
                  rw [hv, dec_nval _ l rfl HD.out.symm, ← HN.out, ← hv] at h
                  exact h)
                clear hv hm hcase
                go_upto_region 24 with fail
                refine mt24 _ l a n c V HN.out (HU.out.fr F) HT2 (Lib.hid ?_)
                rename_i w9
                rintro ⟨rfl, f⟩
                replace F := F.trans' f
                go_wp2_with fail
                go_ret
                exact ⟨rfl, F⟩
  · have l1 : (60 : Int) < (n : Int) := by omega
    clear h60 hn
    go_enter Tryd.func3, Tryd.ntmps3
    go_wp2_with fail
    (with_reducible refine (HL.out _).mono ?_); rintro e w1 ⟨rfl, F⟩
    go_wp2_with fail
    (with_reducible refine (HL.out _).mono ?_); rintro e w2 ⟨rfl, f⟩
    replace F := F.trans' f
    go_wp2_with fail
    go_ret
    exact ⟨rfl, F⟩
end Go.Proofs.YtmebilpmhflahaaDoor
