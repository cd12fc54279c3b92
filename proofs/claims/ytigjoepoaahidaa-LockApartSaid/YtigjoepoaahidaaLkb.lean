/- Layer 8 (lock): the fixed fact; pay; the law LockApart, walked. -/
import Derived.Test.YtigjoepoaahidaaRt
import Derived.Test.YtigjoepoaahidaaLka
import Derived.Lib.SmallJoins
import Derived.OrdersHeld
import Derived.Deep.RegionHeld3
namespace Go.Proofs.Ytigjoepoaahidaa
set_option linter.unusedVariables false
set_option linter.unusedSimpArgs false
open Go.RowKit

theorem Bs.of_row8 {w : World} {g : Nat} {t : TypeId} {fr : Nat × Nat} {L : List UInt8} (h : w.heap[g]? = some (.cells (L.map B8).toArray t fr)) (hm : L.length ≤ maxLen) : Bs w (some ⟨g, 0, none⟩) L.length L :=
  ⟨by simp, Nat.le_refl _, hm, (fun e => by cases e), fun j u hj => ⟨g, 0, rfl, by rw [Nat.zero_add, cell_of_row w g j _ t _ h]; simpa using hj⟩⟩

set_option maxRecDepth 100000 in
set_option maxHeartbeats 4000000 in
theorem lives08_any (HB : LBytesC) (w : World) : Calls Try.prog 6 #[] w fun e w' => e = .returned (.bool true) ∧ Fr F0 w w' := by
  have H1 := Lib.hid (fun a c w hb => HB 2 zero20 [104, 105] a 2 c w rfl hb rfl (by simp))
  have hbl := fun w a n c => run_buildLk w #[(0, .int .i64 2), (2, .slice a n c)] _ (built_lk2 a n c)
  have e1 : lkE 2 [104, 105] = 0 := by decide
  have e2 : lkB 2 zero20 [104, 105] = [106, 2, 104, 105] := by decide
  rw [e1, e2] at H1
  clear HB e1 e2
  have hconv := Joins.run_convert_bytes_const_at (P := Try.prog) w 24 5 #[.int .u8 104, .int .u8 105] 2 2 w.heap.size rfl Try.underlying24 Try.underlying5
  have F := (Fr.refl F0 w).alloc (.cells #[.int .u8 104, .int .u8 105] 5 (2, 3))
  have hB0 : Bs (w.alloc (.cells #[.int .u8 104, .int .u8 105] 5 (2, 3))) (some ⟨w.heap.size, 0, none⟩) 2 [104, 105] := Bs.of_row8 (L := [104, 105]) (heap_alloc_new w _) (by unfold maxLen; simp)
  have H2 := Lib.hid (H1.out _ _ _ hB0)
  clear hB0 H1
  go_enter Try.func6, Try.ntmps6
  go_wp2_with fail
  (with_reducible refine H2.out.mono ?_); rintro e w2 ⟨a2, n2, c2, rfl, rfl, hb2, f2, k2⟩
  have hs : (convert 24 9 (.slice a2 4 c2)).run Try.prog w2 = .ok (.string (⟨#[106, 2, 104, 105]⟩ : ByteArray)) w2 := bs_str7 (n := 4) hb2 rfl
  have HF := Lib.hid (F.trans' f2)
  clear k2 f2 F hb2 hconv hbl H2
  go_wp2
  go_ret
  exact ⟨rfl, HF.out⟩

def payB (A : List UInt8) : List UInt8 := [118, 169, 20] ++ A ++ [136, 172]
theorem strOf_nil : (⟨#[]⟩ : ByteArray) = strOf [] := rfl
set_option maxRecDepth 100000 in
set_option maxHeartbeats 4000000 in
theorem pay08_any (A : List UInt8) (h : A.length = 20) (w : World) : Calls Try.prog 11 #[.agg (A.map B8).toArray] w fun e w' => e = .returned (.string (strOf (payB A))) ∧ Fr F0 w w' := by
  have r0 : (w.alloc (.cells (A.map B8).toArray 23)).heap[w.heap.size]? = some (.cells (A.map B8).toArray 23 (0, 0)) := heap_alloc_new _ _
  have hb : Bs (w.alloc (.cells (A.map B8).toArray 23)) (some ⟨w.heap.size, 0, none⟩) A.length A := Bs.of_row8 r0 (by unfold maxLen; omega)
  rw [h] at hb
  have hs := bs_str7 hb h.symm
  have e : (⟨#[118, 169, 20]⟩ : ByteArray) ++ strOf A ++ (⟨#[136, 172]⟩ : ByteArray) = strOf (payB A) := by
    rw [show (⟨#[118, 169, 20]⟩ : ByteArray) = strOf [118, 169, 20] from rfl, show (⟨#[136, 172]⟩ : ByteArray) = strOf [136, 172] from rfl, strOf_append, strOf_append]
    rfl
  have hS : (strOf A).size = 20 := by rw [strOf_size, h]
  have sz : (A.map B8).toArray.size = 20 := by simp [h]
  clear r0 hb
  generalize strOf A = S at *
  generalize (Array.mk (A.map B8)) = X at *
  go_enter Try.func11, Try.ntmps11
  go_wp2
  go_ret
  exact ⟨by rw [← e]; rfl, (Fr.refl F0 w).alloc _⟩

theorem strOf_toL (l m : List UInt8) : ((strOf l).toList == (strOf m).toList) = decide (l = m) := by rw [← beq_toListBytes, strOf_beq]
theorem lkB1_inj {A B t u : List UInt8} (h : lkB 1 A t = lkB 1 B u) (hA : A.length = 20) (hB : B.length = 20) : A = B := by
  simp only [lkB, if_true] at h
  have h1 := List.append_inj h (by simp [hA, hB])
  have h2 := List.append_inj h1.1 rfl
  exact h2.2
theorem lkB2_eq {A t : List UInt8} (h1 : t.length ≠ 0) (h2 : t.length ≤ 40) : lkB 2 A t = 106 :: UInt8.ofNat t.length :: t := by
  rw [lkB, if_neg (by omega), if_pos ⟨rfl, by omega⟩]
theorem lkB_head {A B t : List UInt8} (h1 : t.length ≠ 0) (h2 : t.length ≤ 40) : ¬ lkB 1 A [] = lkB 2 B t := by
  rw [lkB2_eq h1 h2]
  simp [lkB]

set_option maxRecDepth 100000 in
set_option maxHeartbeats 16000000 in
theorem lockApart_any (HB : LBytesC) (A : List UInt8) (hA : A.length = 20) (B : List UInt8) (hB : B.length = 20) (s : List UInt8) (p1 : Option Addr) (c1 : Nat) (t : List UInt8) (p2 : Option Addr) (c2 : Nat) (w : World) (hs : Bs w p1 c1 s) (ht : Bs w p2 c2 t) :
    Calls Try.prog 3 #[.agg (A.map B8).toArray, .agg (B.map B8).toArray, .slice p1 s.length c1, .slice p2 t.length c2] w fun e w' => e = .returned (.bool true) ∧ Fr F0 w w' := by
  have HL := Lib.hid (lives08_any HB)
  by_cases ok : s.length ≠ 0 ∧ t.length ≠ 0 ∧ s.length ≤ 40 ∧ t.length ≤ 40
  · obtain ⟨k1, k2, k3, k4⟩ := ok
    have l1 : ((s.length : Int) == 0) = false := beq_false_of_ne (by omega)
    have l2 : ((t.length : Int) == 0) = false := beq_false_of_ne (by omega)
    have l3 : ¬ (40 : Int) < (s.length : Int) := by omega
    have l4 : ¬ (40 : Int) < (t.length : Int) := by omega
    have H1 := Lib.hid (fun w => HB 1 A [] none 0 0 w hA (Bs.nothing w) rfl (by simp))
    have H2 := Lib.hid (fun w => HB 1 B [] none 0 0 w hB (Bs.nothing w) rfl (by simp))
    have H3 := Lib.hid (fun w hw => HB 2 zero20 s p1 s.length c1 w rfl hw rfl (by omega))
    have H4 := Lib.hid (fun w hw => HB 2 zero20 t p2 t.length c2 w rfl hw rfl (by omega))
    have b1 := fun w => run_buildLk w #[(0, .int .i64 1), (1, .agg (A.map B8).toArray)] _ (built_lk1 A hA)
    have b2 := fun w => run_buildLk w #[(0, .int .i64 1), (1, .agg (B.map B8).toArray)] _ (built_lk1 B hB)
    have b3 := fun w a n c => run_buildLk w #[(0, .int .i64 2), (2, .slice a n c)] _ (built_lk2 a n c)
    have e3 : lkE 2 s = 0 := by rw [lkE, if_neg (by omega), if_pos rfl, if_neg (by omega)]
    have e4 : lkE 2 t = 0 := by rw [lkE, if_neg (by omega), if_pos rfl, if_neg (by omega)]
    rw [e3] at H3
    rw [e4] at H4
    rw [show lkE 1 [] = 0 from rfl] at H1 H2
    have q1 : ((strOf (lkB 1 A [])).toList == (strOf (lkB 1 B [])).toList) = decide (A = B) := by
      rw [strOf_toL]
      exact decide_eq_decide.2 ⟨fun h => lkB1_inj h hA hB, fun h => by rw [h]⟩
    have q2 : ((strOf (lkB 2 zero20 s)).toList == (strOf (lkB 2 zero20 t)).toList) = ((strOf s).toList == (strOf t).toList) := by
      rw [strOf_toL, strOf_toL, lkB2_eq k1 k3, lkB2_eq k2 k4]
      refine decide_eq_decide.2 ⟨fun h => ?_, fun h => by rw [h]⟩
      simp only [List.cons.injEq] at h
      exact h.2.2
    have q3 : ((strOf (lkB 1 A [])).toList == (strOf (lkB 2 zero20 s)).toList) = false := by
      rw [strOf_toL]
      exact decide_eq_false (lkB_head k1 k3)
    have q4 : ((strOf (lkB 1 B [])).toList == (strOf (lkB 2 zero20 t)).toList) = false := by
      rw [strOf_toL]
      exact decide_eq_false (lkB_head k2 k4)
    have hq : ∀ w, (Op.equalIn 10000 23 (.agg (A.map B8).toArray) (.agg (B.map B8).toArray)).run Try.prog w = .ok (decide (A = B)) w := fun w => run_equalIn_address w A B hA hB
    have sA : (A.map B8).toArray.size = 20 := by simp [hA]
    have sB : (B.map B8).toArray.size = 20 := by simp [hB]
    generalize decide (A = B) = z at *
    generalize lkB 1 A [] = P1 at *
    generalize lkB 1 B [] = P2 at *
    generalize lkB 2 zero20 s = P3 at *
    generalize lkB 2 zero20 t = P4 at *
    generalize lkC 1 A (.slice none 0 0) = C1 at *
    generalize lkC 1 B (.slice none 0 0) = C2 at *
    generalize (A.map B8).toArray = X at *
    generalize (B.map B8).toArray = Y at *
    have HS := Lib.hid hs
    have HT := Lib.hid ht
    clear k1 k2 k3 k4 HB hs ht hA hB e3 e4
    go_enter Try.func3, Try.ntmps3
    go_wp2_with fail
    refine calls_new fun W1 N1 => ?_
    have r1 := N1.new
    have r0 := N1.old (heap_alloc_new w (.cells X 23))
    have F := ((Fr.refl F0 w).alloc (.cells X 23)).trans' N1.fr
    rw [World.size_alloc] at r1
    clear N1
    generalize w.heap.size + 1 = g1 at *
    generalize w.heap.size = g0 at *
    obtain ⟨ns, hns⟩ : ∃ n, n = s.length := ⟨_, rfl⟩
    obtain ⟨nt, hnt⟩ : ∃ n, n = t.length := ⟨_, rfl⟩
    rw [← hns] at H3 l1 l3 ⊢
    rw [← hnt] at H4 l2 l4 ⊢
    replace hns := Lib.hid hns
    replace hnt := Lib.hid hnt
    (with_reducible refine (HL.out _).mono ?_); rintro e w2 ⟨rfl, f⟩
    replace r0 := keep_fr f r0
    replace r1 := keep_fr f r1
    replace F := F.trans' f
    clear f HL
    go_wp2_with fail
    (with_reducible refine (H1.out _).mono ?_); rintro e w3 ⟨a3, n3, c3, rfl, hn3, hb3, f, k3⟩
    replace hn3 := Lib.hid hn3
    clear k3
    replace r0 := keep_fr f r0
    replace r1 := keep_fr f r1
    replace F := F.trans' f
    clear f
    go_wp2_with fail
    (with_reducible refine (H2.out _).mono ?_); rintro e w4 ⟨a4, n4, c4, rfl, hn4, hb4, f, k4⟩
    replace hn4 := Lib.hid hn4
    clear k4
    replace r0 := keep_fr f r0
    replace r1 := keep_fr f r1
    replace F := F.trans' f
    replace hb3 := Bs.fr7 hb3 f
    clear f
    go_wp2_with fail
    (with_reducible refine (H3.out _ (Bs.fr7 HS.out F)).mono ?_); rintro e w5 ⟨a5, n5, c5, rfl, hn5, hb5, f, k5⟩
    replace hn5 := Lib.hid hn5
    clear k5
    replace r0 := keep_fr f r0
    replace r1 := keep_fr f r1
    replace F := F.trans' f
    replace hb3 := Bs.fr7 hb3 f
    replace hb4 := Bs.fr7 hb4 f
    clear f
    go_wp2_with fail
    (with_reducible refine (H4.out _ (Bs.fr7 HT.out F)).mono ?_); rintro e w6 ⟨a6, n6, c6, rfl, hn6, hb6, f, k6⟩
    replace hn6 := Lib.hid hn6
    clear k6
    replace r0 := keep_fr f r0
    replace r1 := keep_fr f r1
    replace F := F.trans' f
    replace hb3 := Bs.fr7 hb3 f
    replace hb4 := Bs.fr7 hb4 f
    replace hb5 := Bs.fr7 hb5 f
    clear f
    go_upto_region 7 with fail
    have HF := Lib.hid F
    have Hr := Lib.hid (And.intro r0 r1)
    have Hb := Lib.hid (And.intro hb3 (And.intro hb4 (And.intro hb5 hb6)))
    clear F r0 r1 b1 b2 b3 hb3 hb4 hb5 hb6 H1 H2 H3 H4
    refine wp_region_noPanic ?_
    refine wp_region_held_drew (S := (fun w' => (w'.heap[g0]? = some (.cells X 23 (0, 0)) ∧ w'.heap[g1]? = some (.cells Y 23 (0, 0))) ∧ (convert 24 9 (.slice a3 n3 c3)).run Try.prog w' = .ok (.string (strOf P1)) w' ∧ (convert 24 9 (.slice a4 n4 c4)).run Try.prog w' = .ok (.string (strOf P2)) w' ∧ (convert 24 9 (.slice a5 n5 c5)).run Try.prog w' = .ok (.string (strOf P3)) w' ∧ (convert 24 9 (.slice a6 n6 c6)).run Try.prog w' = .ok (.string (strOf P4)) w' ∧ (convert 24 9 (.slice p1 ns c1)).run Try.prog w' = .ok (.string (strOf s)) w' ∧ (convert 24 9 (.slice p2 nt c2)).run Try.prog w' = .ok (.string (strOf t)) w' ∧ Fr F0 w w')) (by kernel_rfl) ?_ (fun hHeld => ?_)
    · ((try dsimp only) <;> (exact ⟨Hr.out, bs_str7 (Bs.fr7 Hb.out.1 (Fr.refl F0 _).drew) hn3.out, bs_str7 (Bs.fr7 Hb.out.2.1 (Fr.refl F0 _).drew) hn4.out, bs_str7 (Bs.fr7 Hb.out.2.2.1 (Fr.refl F0 _).drew) hn5.out, bs_str7 (Bs.fr7 Hb.out.2.2.2 (Fr.refl F0 _).drew) hn6.out, bs_str7 (Bs.fr7 HS.out HF.out.drew) hns.out, bs_str7 (Bs.fr7 HT.out HF.out.drew) hnt.out, HF.out.drew⟩))
    refine rtake 0 ?_
    refine rtake 1 ?_
    refine rtake 2 ?_
    refine rtake 3 ?_
    refine rtake 4 ?_
    refine rtake 5 ?_
    refine rtake 6 ?_
    refine rtake 7 ?_
    refine rtake 8 ?_
    refine rtake 9 ?_
    refine rtake 10 ?_
    refine rtake 11 ?_
    refine rtake 12 ?_
    refine rtake 13 ?_
    refine rtake 14 ?_
    refine rtake 15 ?_
    refine rtake 16 ?_
    refine rtake 17 ?_
    refine rtake 18 ?_
    refine rtake 19 ?_
    refine rtake 20 ?_
    refine rtake 21 ?_
    refine rtake 22 ?_
    refine rtake 23 ?_
    refine rtake 24 ?_
    refine rtake 25 ?_
    refine rtake 26 ?_
    refine rtake 27 ?_
    refine rtake 28 ?_
    refine rtake 29 ?_
    refine rtake 30 ?_
    refine rtake 31 ?_
    refine rtake 32 ?_
    refine rtake 33 ?_
    refine rtake 34 ?_
    refine rtake 35 ?_
    refine rtake 36 ?_
    refine rtake 37 ?_
    refine rtake 38 ?_
    refine rtake 39 ?_
    refine rtake 40 ?_
    refine rtake 41 ?_
    refine rtake 42 ?_
    refine rtake 43 ?_
    refine rtake 44 ?_
    refine rtake 45 ?_
    refine rtake 46 ?_
    refine rtake 47 ?_
    refine rtake 48 ?_
    refine rtake 49 ?_
    refine rtake 50 ?_
    refine rtake 51 ?_
    refine rtake 52 ?_
    refine wpAnyH_done (by kernel_rfl) ?_ _
    refine NoPanic.normal ?_
    all_goals
      go_wp2
      go_ret
      exact ⟨by simp, hHeld.2.2.2.2.2.2.2⟩
  · have hbad : s.length = 0 ∨ (s.length ≠ 0 ∧ t.length = 0) ∨ (s.length ≠ 0 ∧ t.length ≠ 0 ∧ 40 < s.length) ∨ (s.length ≠ 0 ∧ t.length ≠ 0 ∧ s.length ≤ 40 ∧ 40 < t.length) := by omega
    obtain ⟨ns, hns⟩ : ∃ n, n = s.length := ⟨_, rfl⟩
    obtain ⟨nt, hnt⟩ : ∃ n, n = t.length := ⟨_, rfl⟩
    rw [← hns, ← hnt] at hbad ⊢
    clear ok hns hnt
    rcases hbad with h1 | ⟨h1, h2⟩ | ⟨h1, h2, h3⟩ | ⟨h1, h2, h3, h4⟩
    · have l1 : ((ns : Int) == 0) = true := by subst h1; rfl
      clear h1
      go_enter Try.func3, Try.ntmps3
      go_wp2_with fail
      refine calls_new fun W1 N1 => ?_
      have F := ((Fr.refl F0 w).alloc (.cells (A.map B8).toArray 23)).trans' N1.fr
      clear N1
      (with_reducible refine (HL.out _).mono ?_); rintro e w2 ⟨rfl, f⟩
      replace F := F.trans' f
      clear f
      go_wp2_with fail
      (with_reducible refine (HL.out _).mono ?_); rintro e w3 ⟨rfl, f⟩
      go_wp2
      go_ret
      exact ⟨rfl, F.trans' f⟩
    · have l1 : ((ns : Int) == 0) = false := beq_false_of_ne (by omega)
      have l2 : ((nt : Int) == 0) = true := by subst h2; rfl
      clear h1 h2
      go_enter Try.func3, Try.ntmps3
      go_wp2_with fail
      refine calls_new fun W1 N1 => ?_
      have F := ((Fr.refl F0 w).alloc (.cells (A.map B8).toArray 23)).trans' N1.fr
      clear N1
      (with_reducible refine (HL.out _).mono ?_); rintro e w2 ⟨rfl, f⟩
      replace F := F.trans' f
      clear f
      go_wp2_with fail
      (with_reducible refine (HL.out _).mono ?_); rintro e w3 ⟨rfl, f⟩
      go_wp2
      go_ret
      exact ⟨rfl, F.trans' f⟩
    · have l1 : ((ns : Int) == 0) = false := beq_false_of_ne (by omega)
      have l2 : ((nt : Int) == 0) = false := beq_false_of_ne (by omega)
      have l3 : (40 : Int) < (ns : Int) := by omega
      clear h1 h2 h3
      go_enter Try.func3, Try.ntmps3
      go_wp2_with fail
      refine calls_new fun W1 N1 => ?_
      have F := ((Fr.refl F0 w).alloc (.cells (A.map B8).toArray 23)).trans' N1.fr
      clear N1
      (with_reducible refine (HL.out _).mono ?_); rintro e w2 ⟨rfl, f⟩
      replace F := F.trans' f
      clear f
      go_wp2_with fail
      (with_reducible refine (HL.out _).mono ?_); rintro e w3 ⟨rfl, f⟩
      go_wp2
      go_ret
      exact ⟨rfl, F.trans' f⟩
    · have l1 : ((ns : Int) == 0) = false := beq_false_of_ne (by omega)
      have l2 : ((nt : Int) == 0) = false := beq_false_of_ne (by omega)
      have l3 : ¬ (40 : Int) < (ns : Int) := by omega
      have l4 : (40 : Int) < (nt : Int) := by omega
      clear h1 h2 h3 h4
      go_enter Try.func3, Try.ntmps3
      go_wp2_with fail
      refine calls_new fun W1 N1 => ?_
      have F := ((Fr.refl F0 w).alloc (.cells (A.map B8).toArray 23)).trans' N1.fr
      clear N1
      (with_reducible refine (HL.out _).mono ?_); rintro e w2 ⟨rfl, f⟩
      replace F := F.trans' f
      clear f
      go_wp2_with fail
      (with_reducible refine (HL.out _).mono ?_); rintro e w3 ⟨rfl, f⟩
      go_wp2
      go_ret
      exact ⟨rfl, F.trans' f⟩
end Go.Proofs.Ytigjoepoaahidaa
