/- Layer 8 (lock), the program's own: Key, addressBytes, tagBytes, Bytes. -/
import Derived.Test.YtigjoepoaahidaaLka
import Derived.Test.YtigjoepoaahidaaCat
namespace Go.Proofs.Ytigjoepoaahidaa
set_option linter.unusedVariables false
set_option linter.unusedSimpArgs false
open Go.RowKit

theorem Pts.of2 {w : World} {g : Nat} {a b : Option Addr} {n m c d : Nat} {l k : List UInt8} {t : TypeId} {fr : Nat × Nat} (h : w.heap[g]? = some (.cells #[.slice a n c, .slice b m d] t fr))
    (h1 : Bs w a c l) (h2 : Bs w b d k) (hn : n = l.length) (hm : m = k.length) : Pts w (some ⟨g, 0, none⟩) [(a, c, l), (b, d, k)] := by
  subst hn hm
  refine ⟨fun i hi => ⟨g, 0, rfl, ?_⟩, fun i hi => ?_⟩
  · rw [Nat.zero_add, cell_at, h]
    match i, hi with
    | 0, _ => rfl
    | 1, _ => rfl
  · match i, hi with
    | 0, _ => exact h1
    | 1, _ => exact h2
theorem Pts.of3 {w : World} {g : Nat} {a b a3 : Option Addr} {n m c d n3 c3 : Nat} {l k l3 : List UInt8} {t : TypeId} {fr : Nat × Nat} (h : w.heap[g]? = some (.cells #[.slice a n c, .slice b m d, .slice a3 n3 c3] t fr))
    (h1 : Bs w a c l) (h2 : Bs w b d k) (h3 : Bs w a3 c3 l3) (hn : n = l.length) (hm : m = k.length) (hn3 : n3 = l3.length) : Pts w (some ⟨g, 0, none⟩) [(a, c, l), (b, d, k), (a3, c3, l3)] := by
  subst hn hm hn3
  refine ⟨fun i hi => ⟨g, 0, rfl, ?_⟩, fun i hi => ?_⟩
  · rw [Nat.zero_add, cell_at, h]
    match i, hi with
    | 0, _ => rfl
    | 1, _ => rfl
    | 2, _ => rfl
  · match i, hi with
    | 0, _ => exact h1
    | 1, _ => exact h2
    | 2, _ => exact h3
theorem Bs.of_r8 {w : World} {g n : Nat} {t : TypeId} {fr : Nat × Nat} {L : List UInt8} (h : w.heap[g]? = some (.cells (L.map B8).toArray t fr)) (hn : n = L.length) (hm : n ≤ 1000000) : Bs w (some ⟨g, 0, none⟩) n L := by
  subst hn
  exact ⟨by simp, Nat.le_refl _, by unfold maxLen; omega, (fun e => by cases e), fun j u hj => ⟨g, 0, rfl, by rw [Nat.zero_add, cell_of_row w g j _ t _ h]; simpa using hj⟩⟩

set_option maxRecDepth 100000 in
set_option maxHeartbeats 4000000 in
theorem lKeyC : LKeyC := by
  intro A w hA
  obtain ⟨X, hX⟩ : ∃ X, X = (A.map B8).toArray := ⟨_, rfl⟩
  have sA : X.size = 20 := by simp [hX, hA]
  rw [← hX]
  replace hA := Lib.hid hA
  replace hX := Lib.hid hX
  go_enter Try.func9, Try.ntmps9
  go_upto_region 1 with fail
  refine wp_new fun W0 N0 => ?_
  have r0 := N0.new
  have F := N0.fr
  clear N0
  obtain ⟨g0, hg0⟩ : ∃ g, g = w.heap.size := ⟨_, rfl⟩
  rw [← hg0] at r0 ⊢
  clear hg0
  go_wp2_with fail
  refine calls_new fun W2 N2 => ?_
  have r2 := N2.new
  have r1 := N2.old (heap_alloc_new W0 (.cells #[.int .u8 20] 5))
  have r0' := N2.old (keep_alloc r0)
  replace F := (F.alloc (.cells #[.int .u8 20] 5)).trans' N2.fr
  clear N2 r0
  rw [World.size_alloc] at r2
  have HK := Lib.hid (slConcat_any [(some ⟨W0.heap.size, 0, none⟩, 1, [20]), (some ⟨g0, 0, none⟩, 20, A)] (some ⟨W0.heap.size + 1, 0, none⟩) 2 2 rfl (by omega) W2
    (Pts.of2 r2 (Bs.of_r8 (L := [20]) r1 rfl (by omega)) (Bs.of_r8 (L := A) (by rw [← hX.out]; exact r0') hA.out.symm (by omega)) rfl hA.out.symm) (by simp [cat, hA.out]))
  (with_reducible refine HK.out.mono ?_); rintro e w3 ⟨a3, c3, rfl, hb3, f3, n3⟩
  have e3 : cat [(some ⟨W0.heap.size, 0, none⟩, 1, [20]), (some ⟨g0, 0, none⟩, 20, A)] = 20 :: A := by simp [cat]
  rw [e3] at hb3 ⊢
  have R : NewBytes (20 :: A) w (.returned (.slice a3 (20 :: A).length c3)) w3 := ⟨a3, c3, rfl, hb3, F.trans' f3, fun b hb => ⟨Nat.le_trans F.size (n3 b hb).1, (n3 b hb).2⟩⟩
  replace R := Lib.hid R
  clear HK e3 hb3 f3 n3 r2 r1 r0' F
  generalize (20 :: A).length = N at *
  go_wp2_with fail
  go_ret
  exact R.out
def lkBa (A : List UInt8) : List UInt8 := [118, 169, 20] ++ A ++ [136, 172]
set_option maxRecDepth 100000 in
set_option maxHeartbeats 4000000 in
theorem lAddrBytes_any (A : List UInt8) (w : World) (hA : A.length = 20) : Calls Try.prog 12 #[.agg (A.map B8).toArray] w (NewBytes (lkBa A) w) := by
  have HKy := Lib.hid (fun w => lKeyC A w hA)
  obtain ⟨X, hX⟩ : ∃ X, X = (A.map B8).toArray := ⟨_, rfl⟩
  have sA : X.size = 20 := by simp [hX, hA]
  rw [← hX] at HKy ⊢
  replace hA := Lib.hid hA
  clear hX
  go_enter Try.func12, Try.ntmps12
  go_upto_region 1 with fail
  refine wp_new fun W0 N0 => ?_
  have r0 := N0.new
  have F := N0.fr
  clear N0
  obtain ⟨g0, hg0⟩ : ∃ g, g = w.heap.size := ⟨_, rfl⟩
  rw [← hg0] at r0 ⊢
  clear hg0
  have r0a : (W0.alloc (.cells #[.int .u8 118, .int .u8 169] 5)).heap[g0]? = some (.cells X 23 (0, 0)) := keep_alloc r0
  go_wp2_with fail
  refine calls_new fun W1 N1 => ?_
  have r1 := N1.new
  have r0' := N1.old r0
  replace F := F.trans' N1.fr
  clear N1 r0 r0a
  obtain ⟨g1, hg1⟩ : ∃ g, g = W0.heap.size := ⟨_, rfl⟩
  rw [← hg1] at r1 ⊢
  clear hg1
  (with_reducible refine (HKy.out _).mono ?_); rintro e w2 ⟨a2, c2, rfl, hb2, f2, n2⟩
  replace r1 := keep_fr f2 r1
  replace F := F.trans' f2
  have n20 : (20 :: A).length = 21 := by rw [List.length_cons, hA.out]
  rw [n20]
  clear f2 n2 r0' HKy
  go_wp2_with fail
  refine calls_new fun W2 N2 => ?_
  have r2 := N2.new
  have r3 := N2.old (heap_alloc_new w2 (.cells #[.int .u8 136, .int .u8 172] 5))
  have r1' := N2.old (keep_alloc r1)
  have f2 := ((Fr.refl F0 w2).alloc (.cells #[.int .u8 136, .int .u8 172] 5)).trans' N2.fr
  rw [World.size_alloc] at r2
  have hb2' := Bs.fr7 hb2 f2
  replace F := F.trans' f2
  clear N2 r1 hb2 f2
  have HK := Lib.hid (slConcat_any [(some ⟨g1, 0, none⟩, 2, [118, 169]), (a2, c2, 20 :: A), (some ⟨w2.heap.size, 0, none⟩, 2, [136, 172])] (some ⟨w2.heap.size + 1, 0, none⟩) 3 3 rfl (by omega) W2
    (Pts.of3 r2 (Bs.of_r8 (L := [118, 169]) r1' rfl (by omega)) hb2' (Bs.of_r8 (L := [136, 172]) r3 rfl (by omega)) rfl n20.symm rfl) (by simp [cat, hA.out]))
  (with_reducible refine HK.out.mono ?_); rintro e w3 ⟨a3, c3, rfl, hb3, f3, n3⟩
  have e3 : cat [(some ⟨g1, 0, none⟩, 2, [118, 169]), (a2, c2, 20 :: A), (some ⟨w2.heap.size, 0, none⟩, 2, [136, 172])] = lkBa A := by simp [cat, lkBa]
  rw [e3] at hb3 ⊢
  have R : NewBytes (lkBa A) w (.returned (.slice a3 (lkBa A).length c3)) w3 := ⟨a3, c3, rfl, hb3, F.trans' f3, fun b hb => ⟨Nat.le_trans F.size (n3 b hb).1, (n3 b hb).2⟩⟩
  replace R := Lib.hid R
  clear HK e3 hb3 f3 n3 r2 r1' r3 F
  generalize (lkBa A).length = N at *
  go_wp2_with fail
  go_ret
  exact R.out
set_option maxRecDepth 100000 in
set_option maxHeartbeats 4000000 in
theorem lTagBytes_any (t : List UInt8) (a : Option Addr) (n c : Nat) (w : World) (h : Bs w a c t) (hn : n = t.length) (hl : t.length ≤ 255) : Calls Try.prog 14 #[.slice a n c] w (NewBytes (106 :: UInt8.ofNat t.length :: t) w) := by
  have HB := Lib.hid h
  have hm : (n : Int) % 256 = (n : Int) := by omega
  replace hl := Lib.hid hl
  replace hn := Lib.hid hn
  clear h
  go_enter Try.func14, Try.ntmps14
  go_wp2_with fail
  refine calls_new fun W2 N2 => ?_
  have r2 := N2.new
  have r1 := N2.old (heap_alloc_new w (.cells #[.int .u8 106, .int .u8 (n : Int)] 5))
  have F := ((Fr.refl F0 w).alloc (.cells #[.int .u8 106, .int .u8 (n : Int)] 5)).trans' N2.fr
  rw [World.size_alloc] at r2
  have hb := Bs.fr7 HB.out F
  have eL : (#[.int .u8 106, .int .u8 (n : Int)] : Array Value) = ([106, UInt8.ofNat t.length].map B8).toArray := by
    simp only [List.map_cons, List.map_nil, B8, UInt8.toNat_ofNat']
    have h1 := hl.out
    have h2 := hn.out
    rw [show t.length % 2 ^ 8 = n by omega]
    rfl
  rw [eL] at r1
  clear N2 eL
  have HK := Lib.hid (slConcat_any [(some ⟨w.heap.size, 0, none⟩, 2, [106, UInt8.ofNat t.length]), (a, c, t)] (some ⟨w.heap.size + 1, 0, none⟩) 2 2 rfl (by omega) W2
    (Pts.of2 r2 (Bs.of_r8 (L := [106, UInt8.ofNat t.length]) r1 rfl (by omega)) hb rfl hn.out) (by have := hl.out; simp [cat]; omega))
  (with_reducible refine HK.out.mono ?_); rintro e w3 ⟨a3, c3, rfl, hb3, f3, n3⟩
  have e3 : cat [(some ⟨w.heap.size, 0, none⟩, 2, [106, UInt8.ofNat t.length]), (a, c, t)] = 106 :: UInt8.ofNat t.length :: t := by simp [cat]
  rw [e3] at hb3 ⊢
  have R : NewBytes (106 :: UInt8.ofNat t.length :: t) w (.returned (.slice a3 (106 :: UInt8.ofNat t.length :: t).length c3)) w3 := ⟨a3, c3, rfl, hb3, F.trans' f3, fun b hb => ⟨Nat.le_trans F.size (n3 b hb).1, (n3 b hb).2⟩⟩
  replace R := Lib.hid R
  clear HK e3 hb3 f3 n3 r2 r1 F hb
  generalize (106 :: UInt8.ofNat t.length :: t).length = N at *
  go_wp2_with fail
  go_ret
  exact R.out
theorem lIsTag_any (n : Int) (w : World) : Calls Try.prog 13 #[.int .i64 n] w fun e w' => e = .returned (.bool (decide (1 ≤ n) && decide (n ≤ 40))) ∧ w' = w := by
  by_cases h1 : 1 ≤ n
  · go_enter Try.func13, Try.ntmps13
    go_wp2
    go_ret
    exact ⟨by simp [h1], rfl⟩
  · replace h1 : n < 1 := by omega
    go_enter Try.func13, Try.ntmps13
    go_wp2
    go_ret
    exact ⟨by rw [decide_eq_false (by omega : ¬ 1 ≤ n)]; rfl, rfl⟩
set_option maxRecDepth 100000 in
set_option maxHeartbeats 8000000 in
theorem lBytesC : LBytesC := by
  intro k A t a n c w hA ht hn hl
  have HA := Lib.hid (fun w => lAddrBytes_any A w hA)
  have HT := Lib.hid (fun w hw h40 => lTagBytes_any t a n c w hw hn h40)
  have hB := Lib.hid ht
  have K := LkC.of (k := k) hA (.slice a n c)
  obtain ⟨s0, c0, c21, x1⟩ := K
  subst hn
  replace hA := Lib.hid hA
  generalize lkC k A (.slice a t.length c) = C at *
  have d0 := cell_is c0 (by omega)
  have d21 := cell_is c21 (by omega)
  have r0 := heap_alloc_new w (.cells C 30)
  have F := (Fr.refl F0 w).alloc (.cells C 30)
  have hb' := Lib.hid (Bs.fr7 ht F)
  clear ht
  have HI := Lib.hid (fun w => lIsTag_any (t.length : Int) w)
  by_cases h1 : k = 1
  · subst h1
    have e1 : lkB 1 A t = lkBa A := by simp [lkB, lkBa]
    have l1 : ((1 : Int) == 1) = true := rfl
    have hm : midOut Try.prog 23 (.pointer (some ⟨w.heap.size, 1, none⟩)) (w.alloc (.cells C 30)) 20 1 22 (some (.cells C 30 (0, 0))) = .ok (.agg (A.map B8).toArray) (w.alloc (.cells C 30)) := by
      rw [midOut_cells s0]
      rw [x1]
    go_enter Try.func7, Try.ntmps7
    go_wp2_with fail
    (with_reducible refine (HA.out _).mono ?_); rintro e w2 ⟨a2, c2, rfl, hb2, f2, n2⟩
    have R : NewBytes (lkBa A) w (.returned (.slice a2 (lkBa A).length c2)) w2 := ⟨a2, c2, rfl, hb2, F.trans' f2, fun b hb => ⟨Nat.le_trans F.size (n2 b hb).1, (n2 b hb).2⟩⟩
    replace R := Lib.hid R
    clear HA HT HI hb2 f2 n2 F hb' hm r0 x1
    obtain ⟨N, hN⟩ : ∃ N, N = (lkBa A).length := ⟨_, rfl⟩
    rw [← hN]
    replace hN := Lib.hid hN
    replace e1 := Lib.hid e1
    go_wp2_with fail
    go_ret2
    obtain ⟨a', c', e, hb, f, nn⟩ := R.out
    cases e
    exact ⟨a2, N, c2, rfl, by rw [e1.out, hN.out], by rw [e1.out]; exact hb, f, fun g hg => (nn g hg).1⟩
  · have l1 : (k == 1) = false := beq_false_of_ne h1
    by_cases h2 : k = 2
    · subst h2
      have l2 : ((2 : Int) != 2) = false := rfl
      by_cases h3 : t.length = 0 ∨ 40 < t.length
      · have eE : lkE 2 t = 3 := by rw [lkE, if_neg (by omega), if_pos rfl, if_pos h3]
        have eB : lkB 2 A t = [] := by rw [lkB, if_neg (by omega), if_neg (fun h => h.2 h3)]
        have hq : (decide (1 ≤ (t.length : Int)) && decide ((t.length : Int) ≤ 40)) = false := by
          rcases h3 with h3 | h3
          · rw [decide_eq_false (by omega)]; rfl
          · rw [decide_eq_false (by omega : ¬ (t.length : Int) ≤ 40), Bool.and_false]
        rw [hq] at HI
        replace eB := Lib.hid eB
        rw [eE]
        clear hq h3 eE
        go_enter Try.func7, Try.ntmps7
        go_wp2_with fail
        (with_reducible refine (HI.out _).mono ?_); rintro e w2 ⟨rfl, rfl⟩
        go_wp2_with fail
        go_ret2
        exact ⟨none, 0, 0, rfl, by rw [eB.out]; rfl, by rw [eB.out]; exact Bs.nothing _, F, fun g hg => by cases hg⟩
      · have h4 : t.length ≤ 40 := by omega
        have eE : lkE 2 t = 0 := by rw [lkE, if_neg (by omega), if_pos rfl, if_neg h3]
        have eB : lkB 2 A t = 106 :: UInt8.ofNat t.length :: t := by rw [lkB, if_neg (by omega), if_pos ⟨rfl, h3⟩]
        have hq : (decide (1 ≤ (t.length : Int)) && decide ((t.length : Int) ≤ 40)) = true := by
          rw [decide_eq_true (by omega), decide_eq_true (by omega)]; rfl
        rw [hq] at HI
        replace eB := Lib.hid eB
        have HT2 := Lib.hid (fun w hw => HT.out w hw (by omega))
        rw [eE]
        clear hq h3 h4 eE HT
        go_enter Try.func7, Try.ntmps7
        go_wp2_with fail
        (with_reducible refine (HI.out _).mono ?_); rintro e w2 ⟨rfl, rfl⟩
        go_wp2_with fail
        (with_reducible refine (HT2.out _ hb'.out).mono ?_); rintro e w2 ⟨a2, c2, rfl, hb2, f2, n2⟩
        have R : NewBytes (106 :: UInt8.ofNat t.length :: t) w (.returned (.slice a2 (106 :: UInt8.ofNat t.length :: t).length c2)) w2 := ⟨a2, c2, rfl, hb2, F.trans' f2, fun b hb => ⟨Nat.le_trans F.size (n2 b hb).1, (n2 b hb).2⟩⟩
        replace R := Lib.hid R
        clear HA HT2 HI hb2 f2 n2 F hb' r0 x1
        obtain ⟨N, hN⟩ : ∃ N, N = (106 :: UInt8.ofNat t.length :: t).length := ⟨_, rfl⟩
        rw [← hN]
        replace hN := Lib.hid hN
        go_wp2_with fail
        go_ret2
        obtain ⟨a', c', e, hb, f, nn⟩ := R.out
        cases e
        exact ⟨a2, N, c2, rfl, by rw [eB.out, hN.out], by rw [eB.out]; exact hb, f, fun g hg => (nn g hg).1⟩
    · have l2 : (k != 2) = true := by simp [h2]
      have eE : lkE k t = 1 := by simp [lkE, h1, h2]
      have eB : lkB k A t = [] := by simp [lkB, h1, h2]
      replace eB := Lib.hid eB
      rw [eE]
      clear eE
      go_enter Try.func7, Try.ntmps7
      go_wp2_with fail
      go_ret2
      exact ⟨none, 0, 0, rfl, by rw [eB.out]; rfl, by rw [eB.out]; exact Bs.nothing _, F, fun g hg => by cases hg⟩
end Go.Proofs.Ytigjoepoaahidaa
