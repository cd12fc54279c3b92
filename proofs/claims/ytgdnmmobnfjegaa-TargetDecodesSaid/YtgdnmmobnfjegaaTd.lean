/- Layer 6's law TargetDecodes, walked. -/
import Derived.Test.YtgdnmmobnfjegaaTk
namespace Go.Proofs.Ytgdnmmobnfjegaa
set_option linter.unusedVariables false
set_option linter.unusedSimpArgs false
open Go.RowKit

theorem enM_23 (t : Nat) : enM t < 8388608 := by
  by_cases h : 0 < t
  · exact enM_lt h
  · obtain rfl : t = 0 := by omega
    decide
theorem enB_lt {t : Nat} (h : t < W256) : enB t < 4294967296 := by
  have h1 := enE_33 h
  have h2 := enM_23 t
  unfold enB
  omega
theorem enB_E (t : Nat) : btE (enB t) = enE t := by
  have h2 := enM_23 t
  unfold btE enB
  omega
theorem enB_M (t : Nat) : btM (enB t) = enM t := by
  have h2 := enM_23 t
  unfold btM enB
  omega
theorem enB_S (t : Nat) : btS (enB t) = 0 := by
  have h2 := enM_23 t
  unfold btS enB
  omega
theorem enB_T (t : Nat) : btT (enB t) = tgt (enE t) (enM t) := by
  unfold btT
  rw [enB_E, enB_M]
/-- What bits tell is told again by its bits. -/
theorem dec_again {b : Nat} (h : btP b) : btP (enB (btT b)) ∧ btT (enB (btT b)) = btT b := by
  have e : btT (enB (btT b)) = btT b := by
    rw [enB_T]
    exact tgt_again (e := btE b) (m := btM b) (Nat.mod_lt _ (by omega)) h.2.1
  refine ⟨⟨fun h1 => ?_, ?_, ?_⟩, e⟩
  · rw [enB_S] at h1; omega
  · rw [e]; exact h.2.1
  · rw [e]; exact h.2.2
theorem en_back {t : Nat} (h : 0 < t) (ht : t < W256) : btP (enB t) ∧ btT (enB t) ≤ t ∧ enB (btT (enB t)) = enB t := by
  have hb := back_same h
  have hl := tgt_en_le h
  rw [enB_T]
  refine ⟨⟨fun h1 => ?_, ?_, ?_⟩, hl, ?_⟩
  · rw [enB_S] at h1; omega
  · rw [enB_T]; exact hb.1
  · rw [enB_T]; omega
  · conv => lhs; unfold enB
    rw [hb.2.1, hb.2.2]
    rfl

/-- What is told of bits, and of a target's. -/
def TwoC (Y t : Nat) : Prop :=
  (rowEq 256 t 0 = true ∧ ∃ V E, Hid (∀ w, Calls Try.prog 12 #[.int .u32 (Y : Int)] w fun e w' => e = .returned (.tuple #[.agg (rowN .u64 64 4 V), .int .i64 E]) ∧ Fr F0 w w')) ∨
  (rowEq 256 t 0 = false ∧ ∃ V s, Hid (∀ w, Calls Try.prog 12 #[.int .u32 (Y : Int)] w fun e w' => e = .returned (.tuple #[.agg (rowN .u64 64 4 V), .int .i64 0]) ∧ Fr F0 w w') ∧
    Hid (∀ w, Calls Try.prog 9 #[.agg (rowN .u64 64 4 V), .agg (rowN .u64 64 4 t)] w fun e w' => e = .returned (.int .i64 s) ∧ Fr F0 w w') ∧ s ≤ 0 ∧
    Hid (∀ w, Calls Try.prog 15 #[.agg (rowN .u64 64 4 V)] w fun e w' => e = .returned (.int .u32 (Y : Int)) ∧ Fr F0 w w'))

theorem two_is (HD : DecC) (HE : EncC) (t : Nat) (ht : t < W256) : TwoC (enB t) t := by
  unfold TwoC
  rw [rowEq_of _ _ ht (word_w (by omega)), decide_eq_true_iff, decide_eq_false_iff_not]
  by_cases h0 : t = 0
  · refine .inl ⟨h0, ?_⟩
    by_cases hp : btP (enB t)
    · exact ⟨_, _, Lib.hid ((HD (enB t) (enB_lt ht)).1 hp)⟩
    · exact ⟨_, _, Lib.hid ((HD (enB t) (enB_lt ht)).2 hp)⟩
  · right
    obtain ⟨hp, hle, he⟩ := en_back (by omega) ht
    have hD := (HD (enB t) (enB_lt ht)).1 hp
    generalize btT (enB t) = V at *
    have hV : V < W256 := by omega
    refine ⟨h0, V, sgn V t, Lib.hid hD, Lib.hid (wCmp_any V t hV ht), ?_, Lib.hid fun w => ?_⟩
    · unfold sgn
      split
      · omega
      · rw [if_neg (by omega)]; omega
    · have := HE V hV w
      rwa [he] at this

set_option maxRecDepth 100000 in
set_option maxHeartbeats 16000000 in
theorem targetDecodes_no (HL : Hid (∀ w : World, Calls Try.prog 7 #[] w fun e w' => e = .returned (.bool true) ∧ Fr F0 w w')) (b t T Y : Nat)
    (H1 : Hid (∀ w, Calls Try.prog 12 #[.int .u32 (b : Int)] w fun e w' => e = .returned (.tuple #[.agg (rowN .u64 64 4 0), .int .i64 6]) ∧ Fr F0 w w'))
    (H2 : Hid (∀ w, Calls Try.prog 13 #[.int .u32 (b : Int)] w fun e w' => ∃ a c, e = .returned (.tuple #[.slice a (lg T) c, .bool false]) ∧ Ns w' a c T ∧ Fr F0 w w'))
    (H3 : Hid (∀ w, Calls Try.prog 15 #[.agg (rowN .u64 64 4 t)] w fun e w' => e = .returned (.int .u32 (Y : Int)) ∧ Fr F0 w w'))
    (H4 : Hid (∀ w, Calls Try.prog 17 #[.agg (rowN .u64 64 4 t)] w fun e w' => NN t w e w'))
    (H5 : Hid (∀ a c w, Ns w a c t → Calls Try.prog 16 #[.slice a (lg t) c] w fun e w' => e = .returned (.int .u32 (Y : Int)) ∧ Fr F0 w w'))
    (HC : Hid (TwoC Y t)) (w : World) :
    Calls Try.prog 4 #[.int .u32 (b : Int), .agg (rowN .u64 64 4 t)] w fun e w' => e = .returned (.bool true) ∧ Fr F0 w w' := by
  go_enter Try.func4, Try.ntmps4
  go_wp2_with fail
  obtain ⟨W0, hW0⟩ : ∃ W, W = w.alloc (.cells (rowN .u64 64 4 t) 24) := ⟨_, rfl⟩
  refine Calls.of_world W0 hW0 ?_
  have r0 : W0.heap[w.heap.size]? = some (.cells (rowN .u64 64 4 t) 24 (0, 0)) := by rw [hW0]; exact heap_alloc_new _ _
  have F : Fr F0 w W0 := by rw [hW0]; exact (Fr.refl F0 w).alloc _
  clear hW0
  generalize w.heap.size = g0 at *
  (with_reducible refine (HL.out _).mono ?_); rintro e w1 ⟨rfl, f⟩
  replace F := F.trans' f
  replace r0 := keep_fr f r0
  clear f
  go_wp2_with fail
  (with_reducible refine (H1.out _).mono ?_); rintro e w2 ⟨rfl, f⟩
  replace F := F.trans' f
  replace r0 := keep_fr f r0
  clear f
  go_upto_region 4 with fail
  obtain ⟨W3, hW3⟩ : ∃ W, W = (w2.alloc (.cells (rowN .u64 64 4 0) 24)).setRow w2.heap.size (rowN .u64 64 4 0) := ⟨_, rfl⟩
  refine wp_of_world W3 hW3 ?_
  have N := put_new w2 (rowN .u64 64 4 0) (rowN .u64 64 4 0) 24
  rw [← hW3] at N
  have r3 := N.new
  replace F := F.trans' N.fr
  replace r0 := N.old r0
  clear N hW3
  generalize w2.heap.size = g3 at *
  go_wp2_with fail
  (with_reducible refine (H2.out _).mono ?_); rintro e w4 ⟨p4, k4, rfl, n4, f⟩
  replace F := F.trans' f
  replace r0 := keep_fr f r0
  replace r3 := keep_fr f r3
  clear f n4
  go_upto_region 11 with fail
  go_wp2_with fail
  (with_reducible refine (H3.out _).mono ?_); rintro e w10 ⟨rfl, f⟩
  replace F := F.trans' f
  replace r0 := keep_fr f r0
  clear f
  go_wp2_with fail
  (with_reducible refine (H4.out _).mono ?_); rintro e w11 ⟨p11, k11, rfl, n11, f⟩
  replace F := F.trans' f
  replace r0 := keep_fr f r0
  clear f
  go_wp2_with fail
  (with_reducible refine (H5.out _ _ _ n11).mono ?_); rintro e w12 ⟨rfl, f⟩
  replace F := F.trans' f
  replace r0 := keep_fr f r0
  clear f n11
  rcases HC.out with ⟨he, V, E, HD⟩ | ⟨he, V, s, HD, HCm, hs, HEn⟩
  · go_wp2_with fail
    (with_reducible refine (HD.out _).mono ?_); rintro e w13 ⟨rfl, f⟩
    replace F := F.trans' f
    replace r0 := keep_fr f r0
    clear f
    go_upto_region 15 with fail
    obtain ⟨W14, hW14⟩ : ∃ W, W = (w13.alloc (.cells (rowN .u64 64 4 0) 24)).setRow w13.heap.size (rowN .u64 64 4 V) := ⟨_, rfl⟩
    refine wp_of_world W14 hW14 ?_
    have N := put_new w13 (rowN .u64 64 4 0) (rowN .u64 64 4 V) 24
    rw [← hW14] at N
    have r14 := N.new
    replace F := F.trans' N.fr
    replace r0 := N.old r0
    clear N hW14
    generalize w13.heap.size = g14 at *
    go_wp2_with fail
    go_ret
    exact ⟨rfl, F⟩
  · go_wp2_with fail
    (with_reducible refine (HD.out _).mono ?_); rintro e w13 ⟨rfl, f⟩
    replace F := F.trans' f
    replace r0 := keep_fr f r0
    clear f
    go_upto_region 15 with fail
    obtain ⟨W14, hW14⟩ : ∃ W, W = (w13.alloc (.cells (rowN .u64 64 4 0) 24)).setRow w13.heap.size (rowN .u64 64 4 V) := ⟨_, rfl⟩
    refine wp_of_world W14 hW14 ?_
    have N := put_new w13 (rowN .u64 64 4 0) (rowN .u64 64 4 V) 24
    rw [← hW14] at N
    have r14 := N.new
    replace F := F.trans' N.fr
    replace r0 := N.old r0
    clear N hW14
    generalize w13.heap.size = g14 at *
    go_wp2_with fail
    (with_reducible refine (HCm.out _).mono ?_); rintro e w15 ⟨rfl, f⟩
    replace F := F.trans' f
    replace r0 := keep_fr f r0
    replace r14 := keep_fr f r14
    clear f
    go_wp2_with fail
    (with_reducible refine (HEn.out _).mono ?_); rintro e w16 ⟨rfl, f⟩
    replace F := F.trans' f
    clear f
    go_wp2_with fail
    go_ret
    exact ⟨by simp, F⟩

set_option maxRecDepth 100000 in
set_option maxHeartbeats 16000000 in
theorem targetDecodes_yes (HL : Hid (∀ w : World, Calls Try.prog 7 #[] w fun e w' => e = .returned (.bool true) ∧ Fr F0 w w')) (b t T X Y : Nat)
    (H1 : Hid (∀ w, Calls Try.prog 12 #[.int .u32 (b : Int)] w fun e w' => e = .returned (.tuple #[.agg (rowN .u64 64 4 T), .int .i64 0]) ∧ Fr F0 w w'))
    (H2 : Hid (∀ w, Calls Try.prog 13 #[.int .u32 (b : Int)] w fun e w' => ∃ a c, e = .returned (.tuple #[.slice a (lg T) c, .bool true]) ∧ Ns w' a c T ∧ Fr F0 w w'))
    (H3 : Hid (∀ w, Calls Try.prog 15 #[.agg (rowN .u64 64 4 t)] w fun e w' => e = .returned (.int .u32 (Y : Int)) ∧ Fr F0 w w'))
    (H4 : Hid (∀ w, Calls Try.prog 17 #[.agg (rowN .u64 64 4 t)] w fun e w' => NN t w e w'))
    (H5 : Hid (∀ a c w, Ns w a c t → Calls Try.prog 16 #[.slice a (lg t) c] w fun e w' => e = .returned (.int .u32 (Y : Int)) ∧ Fr F0 w w'))
    (H6 : Hid (∀ p c w, Ns w p c T → Calls Try.prog 14 #[.agg (rowN .u64 64 4 T), .slice p (lg T) c] w fun e w' => e = .returned (.bool true) ∧ Fr F0 w w'))
    (H7 : Hid (∀ w, Calls Try.prog 15 #[.agg (rowN .u64 64 4 T)] w fun e w' => e = .returned (.int .u32 (X : Int)) ∧ Fr F0 w w'))
    (H8 : Hid (∀ w, Calls Try.prog 12 #[.int .u32 (X : Int)] w fun e w' => e = .returned (.tuple #[.agg (rowN .u64 64 4 T), .int .i64 0]) ∧ Fr F0 w w'))
    (HC : Hid (TwoC Y t)) (w : World) :
    Calls Try.prog 4 #[.int .u32 (b : Int), .agg (rowN .u64 64 4 t)] w fun e w' => e = .returned (.bool true) ∧ Fr F0 w w' := by
  go_enter Try.func4, Try.ntmps4
  go_wp2_with fail
  obtain ⟨W0, hW0⟩ : ∃ W, W = w.alloc (.cells (rowN .u64 64 4 t) 24) := ⟨_, rfl⟩
  refine Calls.of_world W0 hW0 ?_
  have r0 : W0.heap[w.heap.size]? = some (.cells (rowN .u64 64 4 t) 24 (0, 0)) := by rw [hW0]; exact heap_alloc_new _ _
  have F : Fr F0 w W0 := by rw [hW0]; exact (Fr.refl F0 w).alloc _
  clear hW0
  generalize w.heap.size = g0 at *
  (with_reducible refine (HL.out _).mono ?_); rintro e w1 ⟨rfl, f⟩
  replace F := F.trans' f
  replace r0 := keep_fr f r0
  clear f
  go_wp2_with fail
  (with_reducible refine (H1.out _).mono ?_); rintro e w2 ⟨rfl, f⟩
  replace F := F.trans' f
  replace r0 := keep_fr f r0
  clear f
  go_upto_region 4 with fail
  obtain ⟨W3, hW3⟩ : ∃ W, W = (w2.alloc (.cells (rowN .u64 64 4 0) 24)).setRow w2.heap.size (rowN .u64 64 4 T) := ⟨_, rfl⟩
  refine wp_of_world W3 hW3 ?_
  have N := put_new w2 (rowN .u64 64 4 0) (rowN .u64 64 4 T) 24
  rw [← hW3] at N
  have r3 := N.new
  replace F := F.trans' N.fr
  replace r0 := N.old r0
  clear N hW3
  generalize w2.heap.size = g3 at *
  go_wp2_with fail
  (with_reducible refine (H2.out _).mono ?_); rintro e w4 ⟨p4, k4, rfl, n4, f⟩
  replace F := F.trans' f
  replace r0 := keep_fr f r0
  replace r3 := keep_fr f r3
  clear f
  go_wp2_with fail
  (with_reducible refine (H6.out _ _ _ n4).mono ?_); rintro e w5 ⟨rfl, f⟩
  replace F := F.trans' f
  replace r0 := keep_fr f r0
  replace r3 := keep_fr f r3
  clear f n4
  go_wp2_with fail
  (with_reducible refine (H7.out _).mono ?_); rintro e w6 ⟨rfl, f⟩
  replace F := F.trans' f
  replace r0 := keep_fr f r0
  replace r3 := keep_fr f r3
  clear f
  go_wp2_with fail
  (with_reducible refine (H8.out _).mono ?_); rintro e w7 ⟨rfl, f⟩
  replace F := F.trans' f
  replace r0 := keep_fr f r0
  replace r3 := keep_fr f r3
  clear f
  go_upto_region 9 with fail
  obtain ⟨W8, hW8⟩ : ∃ W, W = (w7.alloc (.cells (rowN .u64 64 4 0) 24)).setRow w7.heap.size (rowN .u64 64 4 T) := ⟨_, rfl⟩
  refine wp_of_world W8 hW8 ?_
  have N := put_new w7 (rowN .u64 64 4 0) (rowN .u64 64 4 T) 24
  rw [← hW8] at N
  have r8 := N.new
  replace F := F.trans' N.fr
  replace r0 := N.old r0
  replace r3 := N.old r3
  clear N hW8
  generalize w7.heap.size = g8 at *
  have heq : rowEq 256 T T = true := by simp
  go_upto_region 11 with fail
  go_wp2_with fail
  (with_reducible refine (H3.out _).mono ?_); rintro e w10 ⟨rfl, f⟩
  replace F := F.trans' f
  replace r0 := keep_fr f r0
  clear f
  go_wp2_with fail
  (with_reducible refine (H4.out _).mono ?_); rintro e w11 ⟨p11, k11, rfl, n11, f⟩
  replace F := F.trans' f
  replace r0 := keep_fr f r0
  clear f
  go_wp2_with fail
  (with_reducible refine (H5.out _ _ _ n11).mono ?_); rintro e w12 ⟨rfl, f⟩
  replace F := F.trans' f
  replace r0 := keep_fr f r0
  clear f n11
  rcases HC.out with ⟨he, V, E, HD⟩ | ⟨he, V, s, HD, HCm, hs, HEn⟩
  · go_wp2_with fail
    (with_reducible refine (HD.out _).mono ?_); rintro e w13 ⟨rfl, f⟩
    replace F := F.trans' f
    replace r0 := keep_fr f r0
    clear f
    go_upto_region 15 with fail
    obtain ⟨W14, hW14⟩ : ∃ W, W = (w13.alloc (.cells (rowN .u64 64 4 0) 24)).setRow w13.heap.size (rowN .u64 64 4 V) := ⟨_, rfl⟩
    refine wp_of_world W14 hW14 ?_
    have N := put_new w13 (rowN .u64 64 4 0) (rowN .u64 64 4 V) 24
    rw [← hW14] at N
    have r14 := N.new
    replace F := F.trans' N.fr
    replace r0 := N.old r0
    clear N hW14
    generalize w13.heap.size = g14 at *
    go_wp2_with fail
    go_ret
    exact ⟨rfl, F⟩
  · go_wp2_with fail
    (with_reducible refine (HD.out _).mono ?_); rintro e w13 ⟨rfl, f⟩
    replace F := F.trans' f
    replace r0 := keep_fr f r0
    clear f
    go_upto_region 15 with fail
    obtain ⟨W14, hW14⟩ : ∃ W, W = (w13.alloc (.cells (rowN .u64 64 4 0) 24)).setRow w13.heap.size (rowN .u64 64 4 V) := ⟨_, rfl⟩
    refine wp_of_world W14 hW14 ?_
    have N := put_new w13 (rowN .u64 64 4 0) (rowN .u64 64 4 V) 24
    rw [← hW14] at N
    have r14 := N.new
    replace F := F.trans' N.fr
    replace r0 := N.old r0
    clear N hW14
    generalize w13.heap.size = g14 at *
    go_wp2_with fail
    (with_reducible refine (HCm.out _).mono ?_); rintro e w15 ⟨rfl, f⟩
    replace F := F.trans' f
    replace r0 := keep_fr f r0
    replace r14 := keep_fr f r14
    clear f
    go_wp2_with fail
    (with_reducible refine (HEn.out _).mono ?_); rintro e w16 ⟨rfl, f⟩
    replace F := F.trans' f
    clear f
    go_wp2_with fail
    go_ret
    exact ⟨by simp, F⟩

theorem targetDecodes_any (HD : DecC) (HE : EncC) (HW : WorkC) (b t : Nat) (hb : b < 4294967296) (ht : t < W256) (w : World) :
    Calls Try.prog 4 #[.int .u32 (b : Int), .agg (rowN .u64 64 4 t)] w fun e w' => e = .returned (.bool true) ∧ Fr F0 w w' := by
  have HL := Lib.hid (lives06_any HD HW)
  have H3 := Lib.hid (HE t ht)
  have H4 := Lib.hid (r3Of_any t ht)
  have H5 := Lib.hid (fun a c w h => r6Encode_any t a c ht w h)
  have HC := Lib.hid (two_is HD HE t ht)
  by_cases hp : btP b
  · have H1 := Lib.hid ((HD b hb).1 hp)
    have H2 := Lib.hid (r6Decode_any b hb true (decide_eq_true hp))
    obtain ⟨ha, he⟩ := dec_again hp
    have H6 := Lib.hid (is06_yes (btT b) hp.2.2)
    have H7 := Lib.hid (HE (btT b) hp.2.2)
    have h8 := (HD (enB (btT b)) (enB_lt hp.2.2)).1 ha
    rw [he] at h8
    exact targetDecodes_yes HL b t (btT b) (enB (btT b)) (enB t) H1 H2 H3 H4 H5 H6 H7 (Lib.hid h8) HC w
  · exact targetDecodes_no HL b t (btT b) (enB t) (Lib.hid ((HD b hb).2 hp)) (Lib.hid (r6Decode_any b hb false (decide_eq_false hp))) H3 H4 H5 HC w
end Go.Proofs.Ytgdnmmobnfjegaa
