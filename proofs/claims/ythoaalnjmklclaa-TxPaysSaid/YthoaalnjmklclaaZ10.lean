import Derived.Test.YthoaalnjmklclaaZ6
import Derived.Test.YthoaalnjmklclaaZ9
import Derived.Test.YthoaalnjmklclaaZ2
import Derived.Laws.Cover3
import Derived.Deep.RegionHeld3
import Derived.OrdersHeld
/- Layer 8 (lock), the program's own: Key, addressBytes, tagBytes, Bytes. -/
namespace Go.Proofs.Ythoaalnjmklclaa
set_option linter.unusedVariables false
set_option linter.unusedSimpArgs false
open Go.RowKit

theorem Pts.of2 {w : World} {g : Nat} {a b : Option Addr} {n m c d : Nat} {l k : List UInt8} {t : TypeId} {fr : Nat × Nat} (h : w.heap[g]? = some (.cells #[.slice a n c, .slice b m d] t fr))
    (h1 : Bs w a c l) (h2 : Bs w b d k) (hn : n = l.length) (hm : m = k.length) : Pts w (some ⟨g, 0, none⟩) [(a, c, l), (b, d, k)] := by
  subst hn hm
  refine ⟨fun i hi => ⟨g, 0, rfl, ?_⟩, fun i hi => ?_⟩
  · rw [Nat.zero_add, cell_at, h]
    match i, hi with
    | 0, _ => rfl
    | 1, _ => rfl
  · match i, hi with
    | 0, _ => exact h1
    | 1, _ => exact h2
theorem Pts.of3 {w : World} {g : Nat} {a b a3 : Option Addr} {n m c d n3 c3 : Nat} {l k l3 : List UInt8} {t : TypeId} {fr : Nat × Nat} (h : w.heap[g]? = some (.cells #[.slice a n c, .slice b m d, .slice a3 n3 c3] t fr))
    (h1 : Bs w a c l) (h2 : Bs w b d k) (h3 : Bs w a3 c3 l3) (hn : n = l.length) (hm : m = k.length) (hn3 : n3 = l3.length) : Pts w (some ⟨g, 0, none⟩) [(a, c, l), (b, d, k), (a3, c3, l3)] := by
  subst hn hm hn3
  refine ⟨fun i hi => ⟨g, 0, rfl, ?_⟩, fun i hi => ?_⟩
  · rw [Nat.zero_add, cell_at, h]
    match i, hi with
    | 0, _ => rfl
    | 1, _ => rfl
    | 2, _ => rfl
  · match i, hi with
    | 0, _ => exact h1
    | 1, _ => exact h2
    | 2, _ => exact h3
theorem Bs.of_r8 {w : World} {g n : Nat} {t : TypeId} {fr : Nat × Nat} {L : List UInt8} (h : w.heap[g]? = some (.cells (L.map B8).toArray t fr)) (hn : n = L.length) (hm : n ≤ 1000000) : Bs w (some ⟨g, 0, none⟩) n L := by
  subst hn
  exact ⟨by simp, Nat.le_refl _, by unfold maxLen; omega, (fun e => by cases e), fun j u hj => ⟨g, 0, rfl, by rw [Nat.zero_add, cell_of_row w g j _ t _ h]; simpa using hj⟩⟩

set_option maxRecDepth 100000 in
set_option maxHeartbeats 4000000 in
theorem lKeyC : LKeyC := by
  intro A w hA
  obtain ⟨X, hX⟩ : ∃ X, X = (A.map B8).toArray := ⟨_, rfl⟩
  have sA : X.size = 20 := by simp [hX, hA]
  rw [← hX]
  replace hA := Lib.hid hA
  replace hX := Lib.hid hX
  go_enter Try.func73, Try.ntmps73
  go_upto_region 1 with fail
  refine wp_new fun W0 N0 => ?_
  have r0 := N0.new
  have F := N0.fr
  clear N0
  obtain ⟨g0, hg0⟩ : ∃ g, g = w.heap.size := ⟨_, rfl⟩
  rw [← hg0] at r0 ⊢
  clear hg0
  go_wp2_with fail
  refine calls_new fun W2 N2 => ?_
  have r2 := N2.new
  have r1 := N2.old (heap_alloc_new W0 (.cells #[.int .u8 20] 5))
  have r0' := N2.old (keep_alloc r0)
  replace F := (F.alloc (.cells #[.int .u8 20] 5)).trans' N2.fr
  clear N2 r0
  rw [World.size_alloc] at r2
  have HK := Lib.hid (slConcat_any [(some ⟨W0.heap.size, 0, none⟩, 1, [20]), (some ⟨g0, 0, none⟩, 20, A)] (some ⟨W0.heap.size + 1, 0, none⟩) 2 2 rfl (by omega) W2
    (Pts.of2 r2 (Bs.of_r8 (L := [20]) r1 rfl (by omega)) (Bs.of_r8 (L := A) (by rw [← hX.out]; exact r0') hA.out.symm (by omega)) rfl hA.out.symm) (by simp [cat, hA.out]))
  (with_reducible refine HK.out.mono ?_); rintro e w3 ⟨a3, c3, rfl, hb3, f3, n3⟩
  have e3 : cat [(some ⟨W0.heap.size, 0, none⟩, 1, [20]), (some ⟨g0, 0, none⟩, 20, A)] = 20 :: A := by simp [cat]
  rw [e3] at hb3 ⊢
  have R : NewBytes (20 :: A) w (.returned (.slice a3 (20 :: A).length c3)) w3 := ⟨a3, c3, rfl, hb3, F.trans' f3, fun b hb => ⟨Nat.le_trans F.size (n3 b hb).1, (n3 b hb).2⟩⟩
  replace R := Lib.hid R
  clear HK e3 hb3 f3 n3 r2 r1 r0' F
  generalize (20 :: A).length = N at *
  go_wp2_with fail
  go_ret
  exact R.out
def lkBa (A : List UInt8) : List UInt8 := [118, 169, 20] ++ A ++ [136, 172]
set_option maxRecDepth 100000 in
set_option maxHeartbeats 4000000 in
theorem lAddrBytes_any (A : List UInt8) (w : World) (hA : A.length = 20) : Calls Try.prog 47 #[.agg (A.map B8).toArray] w (NewBytes (lkBa A) w) := by
  have HKy := Lib.hid (fun w => lKeyC A w hA)
  obtain ⟨X, hX⟩ : ∃ X, X = (A.map B8).toArray := ⟨_, rfl⟩
  have sA : X.size = 20 := by simp [hX, hA]
  rw [← hX] at HKy ⊢
  replace hA := Lib.hid hA
  clear hX
  go_enter Try.func47, Try.ntmps47
  go_upto_region 1 with fail
  refine wp_new fun W0 N0 => ?_
  have r0 := N0.new
  have F := N0.fr
  clear N0
  obtain ⟨g0, hg0⟩ : ∃ g, g = w.heap.size := ⟨_, rfl⟩
  rw [← hg0] at r0 ⊢
  clear hg0
  have r0a : (W0.alloc (.cells #[.int .u8 118, .int .u8 169] 5)).heap[g0]? = some (.cells X 47 (0, 0)) := keep_alloc r0
  go_wp2_with fail
  refine calls_new fun W1 N1 => ?_
  have r1 := N1.new
  have r0' := N1.old r0
  replace F := F.trans' N1.fr
  clear N1 r0 r0a
  obtain ⟨g1, hg1⟩ : ∃ g, g = W0.heap.size := ⟨_, rfl⟩
  rw [← hg1] at r1 ⊢
  clear hg1
  (with_reducible refine (HKy.out _).mono ?_); rintro e w2 ⟨a2, c2, rfl, hb2, f2, n2⟩
  replace r1 := keep_fr f2 r1
  replace F := F.trans' f2
  have n20 : (20 :: A).length = 21 := by rw [List.length_cons, hA.out]
  rw [n20]
  clear f2 n2 r0' HKy
  go_wp2_with fail
  refine calls_new fun W2 N2 => ?_
  have r2 := N2.new
  have r3 := N2.old (heap_alloc_new w2 (.cells #[.int .u8 136, .int .u8 172] 5))
  have r1' := N2.old (keep_alloc r1)
  have f2 := ((Fr.refl F0 w2).alloc (.cells #[.int .u8 136, .int .u8 172] 5)).trans' N2.fr
  rw [World.size_alloc] at r2
  have hb2' := Bs.fr7 hb2 f2
  replace F := F.trans' f2
  clear N2 r1 hb2 f2
  have HK := Lib.hid (slConcat_any [(some ⟨g1, 0, none⟩, 2, [118, 169]), (a2, c2, 20 :: A), (some ⟨w2.heap.size, 0, none⟩, 2, [136, 172])] (some ⟨w2.heap.size + 1, 0, none⟩) 3 3 rfl (by omega) W2
    (Pts.of3 r2 (Bs.of_r8 (L := [118, 169]) r1' rfl (by omega)) hb2' (Bs.of_r8 (L := [136, 172]) r3 rfl (by omega)) rfl n20.symm rfl) (by simp [cat, hA.out]))
  (with_reducible refine HK.out.mono ?_); rintro e w3 ⟨a3, c3, rfl, hb3, f3, n3⟩
  have e3 : cat [(some ⟨g1, 0, none⟩, 2, [118, 169]), (a2, c2, 20 :: A), (some ⟨w2.heap.size, 0, none⟩, 2, [136, 172])] = lkBa A := by simp [cat, lkBa]
  rw [e3] at hb3 ⊢
  have R : NewBytes (lkBa A) w (.returned (.slice a3 (lkBa A).length c3)) w3 := ⟨a3, c3, rfl, hb3, F.trans' f3, fun b hb => ⟨Nat.le_trans F.size (n3 b hb).1, (n3 b hb).2⟩⟩
  replace R := Lib.hid R
  clear HK e3 hb3 f3 n3 r2 r1' r3 F
  generalize (lkBa A).length = N at *
  go_wp2_with fail
  go_ret
  exact R.out
set_option maxRecDepth 100000 in
set_option maxHeartbeats 4000000 in
theorem lTagBytes_any (t : List UInt8) (a : Option Addr) (n c : Nat) (w : World) (h : Bs w a c t) (hn : n = t.length) (hl : t.length ≤ 255) : Calls Try.prog 49 #[.slice a n c] w (NewBytes (106 :: UInt8.ofNat t.length :: t) w) := by
  have HB := Lib.hid h
  have hm : (n : Int) % 256 = (n : Int) := by omega
  replace hl := Lib.hid hl
  replace hn := Lib.hid hn
  clear h
  go_enter Try.func49, Try.ntmps49
  go_wp2_with fail
  refine calls_new fun W2 N2 => ?_
  have r2 := N2.new
  have r1 := N2.old (heap_alloc_new w (.cells #[.int .u8 106, .int .u8 (n : Int)] 5))
  have F := ((Fr.refl F0 w).alloc (.cells #[.int .u8 106, .int .u8 (n : Int)] 5)).trans' N2.fr
  rw [World.size_alloc] at r2
  have hb := Bs.fr7 HB.out F
  have eL : (#[.int .u8 106, .int .u8 (n : Int)] : Array Value) = ([106, UInt8.ofNat t.length].map B8).toArray := by
    simp only [List.map_cons, List.map_nil, B8, UInt8.toNat_ofNat']
    have h1 := hl.out
    have h2 := hn.out
    rw [show t.length % 2 ^ 8 = n by omega]
    rfl
  rw [eL] at r1
  clear N2 eL
  have HK := Lib.hid (slConcat_any [(some ⟨w.heap.size, 0, none⟩, 2, [106, UInt8.ofNat t.length]), (a, c, t)] (some ⟨w.heap.size + 1, 0, none⟩) 2 2 rfl (by omega) W2
    (Pts.of2 r2 (Bs.of_r8 (L := [106, UInt8.ofNat t.length]) r1 rfl (by omega)) hb rfl hn.out) (by have := hl.out; simp [cat]; omega))
  (with_reducible refine HK.out.mono ?_); rintro e w3 ⟨a3, c3, rfl, hb3, f3, n3⟩
  have e3 : cat [(some ⟨w.heap.size, 0, none⟩, 2, [106, UInt8.ofNat t.length]), (a, c, t)] = 106 :: UInt8.ofNat t.length :: t := by simp [cat]
  rw [e3] at hb3 ⊢
  have R : NewBytes (106 :: UInt8.ofNat t.length :: t) w (.returned (.slice a3 (106 :: UInt8.ofNat t.length :: t).length c3)) w3 := ⟨a3, c3, rfl, hb3, F.trans' f3, fun b hb => ⟨Nat.le_trans F.size (n3 b hb).1, (n3 b hb).2⟩⟩
  replace R := Lib.hid R
  clear HK e3 hb3 f3 n3 r2 r1 F hb
  generalize (106 :: UInt8.ofNat t.length :: t).length = N at *
  go_wp2_with fail
  go_ret
  exact R.out
theorem lIsTag_any (n : Int) (w : World) : Calls Try.prog 48 #[.int .i64 n] w fun e w' => e = .returned (.bool (decide (1 ≤ n) && decide (n ≤ 40))) ∧ w' = w := by
  by_cases h1 : 1 ≤ n
  · go_enter Try.func48, Try.ntmps48
    go_wp2
    go_ret
    exact ⟨by simp [h1], rfl⟩
  · replace h1 : n < 1 := by omega
    go_enter Try.func48, Try.ntmps48
    go_wp2
    go_ret
    exact ⟨by rw [decide_eq_false (by omega : ¬ 1 ≤ n)]; rfl, rfl⟩
set_option maxRecDepth 100000 in
set_option maxHeartbeats 8000000 in
theorem lBytesC : LBytesC := by
  intro k A t a n c w hA ht hn hl
  have HA := Lib.hid (fun w => lAddrBytes_any A w hA)
  have HT := Lib.hid (fun w hw h40 => lTagBytes_any t a n c w hw hn h40)
  have hB := Lib.hid ht
  have K := LkC.of (k := k) hA (.slice a n c)
  obtain ⟨s0, c0, c21, x1⟩ := K
  subst hn
  replace hA := Lib.hid hA
  generalize lkC k A (.slice a t.length c) = C at *
  have d0 := cell_is c0 (by omega)
  have d21 := cell_is c21 (by omega)
  have r0 := heap_alloc_new w (.cells C 58)
  have F := (Fr.refl F0 w).alloc (.cells C 58)
  have hb' := Lib.hid (Bs.fr7 ht F)
  clear ht
  have HI := Lib.hid (fun w => lIsTag_any (t.length : Int) w)
  by_cases h1 : k = 1
  · subst h1
    have e1 : lkB 1 A t = lkBa A := by simp [lkB, lkBa]
    have l1 : ((1 : Int) == 1) = true := rfl
    have hm : midOut Try.prog 47 (.pointer (some ⟨w.heap.size, 1, none⟩)) (w.alloc (.cells C 58)) 20 1 22 (some (.cells C 58 (0, 0))) = .ok (.agg (A.map B8).toArray) (w.alloc (.cells C 58)) := by
      rw [midOut_cells s0]
      rw [x1]
    go_enter Try.func21, Try.ntmps21
    go_wp2_with fail
    (with_reducible refine (HA.out _).mono ?_); rintro e w2 ⟨a2, c2, rfl, hb2, f2, n2⟩
    have R : NewBytes (lkBa A) w (.returned (.slice a2 (lkBa A).length c2)) w2 := ⟨a2, c2, rfl, hb2, F.trans' f2, fun b hb => ⟨Nat.le_trans F.size (n2 b hb).1, (n2 b hb).2⟩⟩
    replace R := Lib.hid R
    clear HA HT HI hb2 f2 n2 F hb' hm r0 x1
    obtain ⟨N, hN⟩ : ∃ N, N = (lkBa A).length := ⟨_, rfl⟩
    rw [← hN]
    replace hN := Lib.hid hN
    replace e1 := Lib.hid e1
    go_wp2_with fail
    go_ret2
    obtain ⟨a', c', e, hb, f, nn⟩ := R.out
    cases e
    exact ⟨a2, N, c2, rfl, by rw [e1.out, hN.out], by rw [e1.out]; exact hb, f, fun g hg => (nn g hg).1⟩
  · have l1 : (k == 1) = false := beq_false_of_ne h1
    by_cases h2 : k = 2
    · subst h2
      have l2 : ((2 : Int) != 2) = false := rfl
      by_cases h3 : t.length = 0 ∨ 40 < t.length
      · have eE : lkE 2 t = 3 := by rw [lkE, if_neg (by omega), if_pos rfl, if_pos h3]
        have eB : lkB 2 A t = [] := by rw [lkB, if_neg (by omega), if_neg (fun h => h.2 h3)]
        have hq : (decide (1 ≤ (t.length : Int)) && decide ((t.length : Int) ≤ 40)) = false := by
          rcases h3 with h3 | h3
          · rw [decide_eq_false (by omega)]; rfl
          · rw [decide_eq_false (by omega : ¬ (t.length : Int) ≤ 40), Bool.and_false]
        rw [hq] at HI
        replace eB := Lib.hid eB
        rw [eE]
        clear hq h3 eE
        go_enter Try.func21, Try.ntmps21
        go_wp2_with fail
        (with_reducible refine (HI.out _).mono ?_); rintro e w2 ⟨rfl, rfl⟩
        go_wp2_with fail
        go_ret2
        exact ⟨none, 0, 0, rfl, by rw [eB.out]; rfl, by rw [eB.out]; exact Bs.nothing _, F, fun g hg => by cases hg⟩
      · have h4 : t.length ≤ 40 := by omega
        have eE : lkE 2 t = 0 := by rw [lkE, if_neg (by omega), if_pos rfl, if_neg h3]
        have eB : lkB 2 A t = 106 :: UInt8.ofNat t.length :: t := by rw [lkB, if_neg (by omega), if_pos ⟨rfl, h3⟩]
        have hq : (decide (1 ≤ (t.length : Int)) && decide ((t.length : Int) ≤ 40)) = true := by
          rw [decide_eq_true (by omega), decide_eq_true (by omega)]; rfl
        rw [hq] at HI
        replace eB := Lib.hid eB
        have HT2 := Lib.hid (fun w hw => HT.out w hw (by omega))
        rw [eE]
        clear hq h3 h4 eE HT
        go_enter Try.func21, Try.ntmps21
        go_wp2_with fail
        (with_reducible refine (HI.out _).mono ?_); rintro e w2 ⟨rfl, rfl⟩
        go_wp2_with fail
        (with_reducible refine (HT2.out _ hb'.out).mono ?_); rintro e w2 ⟨a2, c2, rfl, hb2, f2, n2⟩
        have R : NewBytes (106 :: UInt8.ofNat t.length :: t) w (.returned (.slice a2 (106 :: UInt8.ofNat t.length :: t).length c2)) w2 := ⟨a2, c2, rfl, hb2, F.trans' f2, fun b hb => ⟨Nat.le_trans F.size (n2 b hb).1, (n2 b hb).2⟩⟩
        replace R := Lib.hid R
        clear HA HT2 HI hb2 f2 n2 F hb' r0 x1
        obtain ⟨N, hN⟩ : ∃ N, N = (106 :: UInt8.ofNat t.length :: t).length := ⟨_, rfl⟩
        rw [← hN]
        replace hN := Lib.hid hN
        go_wp2_with fail
        go_ret2
        obtain ⟨a', c', e, hb, f, nn⟩ := R.out
        cases e
        exact ⟨a2, N, c2, rfl, by rw [eB.out, hN.out], by rw [eB.out]; exact hb, f, fun g hg => (nn g hg).1⟩
    · have l2 : (k != 2) = true := by simp [h2]
      have eE : lkE k t = 1 := by simp [lkE, h1, h2]
      have eB : lkB k A t = [] := by simp [lkB, h1, h2]
      replace eB := Lib.hid eB
      rw [eE]
      clear eE
      go_enter Try.func21, Try.ntmps21
      go_wp2_with fail
      go_ret2
      exact ⟨none, 0, 0, rfl, by rw [eB.out]; rfl, by rw [eB.out]; exact Bs.nothing _, F, fun g hg => by cases hg⟩
end Go.Proofs.Ythoaalnjmklclaa

/- Layer 8 (lock), the program's own: Opener, addressOf, tagOf, Parse. -/
namespace Go.Proofs.Ythoaalnjmklclaa
set_option linter.unusedVariables false
set_option linter.unusedSimpArgs false
open Go.RowKit

/-- copy of 20 bytes into a whole address. -/
theorem run_copy_addr {w : World} {g c d : Nat} {a : Addr} {Z : Array Value} {l : List UInt8} {ty : TypeId} (hg : w.heap[g]? = some (.cells Z 47 (0, 0))) (hz : Z.size = 20) (hl : l.length = 20) (hb : Bs w (some a) c l) :
    (Builtin.copy_ #[22, 22] ty #[.slice (some ⟨g, 0, none⟩) 20 20, .slice (some a) 20 d]).run Try.prog w = .ok (.int .i64 20) (w.setRow g (l.map B8).toArray) := by
  have key := run_copy_row (P := Try.prog) w 22 22 ty 5 g 0 20 20 a 20 d Z 47 (l.map B8) Try.underlying22 (by kernel_rfl) hg (by simp [hl]) (fun j v hj => by
      obtain ⟨b', o', e, hc⟩ := hb.cell j v hj
      cases e
      rw [Addr.add_lit]
      exact hc) (by simp [hl, hz]) (by intro v hv; simp only [List.mem_map] at hv; obtain ⟨i, _, rfl⟩ := hv; rfl)
  rw [key]
  have e : (Z.toList.take 0 ++ l.map B8 ++ Z.toList.drop (0 + (l.map B8).length)).toArray = (l.map B8).toArray := by
    rw [List.take_zero, List.nil_append, List.drop_eq_nil_of_le (by simp [hz, hl]), List.append_nil]
  rw [e]
  simp [goInt, hl]

theorem zero20_size : (zero20.map B8).toArray.size = 20 := rfl
theorem zero20_one : rowOne (zero20.map B8).toArray := one_B8s _
theorem Bs.get8 {w : World} {a : Option Addr} {c : Nat} {l : List UInt8} (h : Bs w a c l) (j : Nat) (hj : j < l.length) : ∃ b off, a = some ⟨b, off, none⟩ ∧ w.cell? ⟨b, off + j, none⟩ = some (.int .u8 ((l.getD j 0).toNat : Int)) := by
  obtain ⟨b, off, e, hc⟩ := h.at j hj
  exact ⟨b, off, e, by rw [hc]; simp [List.getD, List.getElem?_eq_getElem hj]⟩
set_option maxRecDepth 100000 in
set_option maxHeartbeats 8000000 in
theorem lOpener_no (b : List UInt8) (a : Option Addr) (n c : Nat) (w : World) (h : Bs w a c b) (hn : n = b.length) (hq : opO b = false) :
    Calls Try.prog 19 #[.slice a n c] w fun e w' => e = .returned (.tuple #[.agg (zero20.map B8).toArray, .bool false]) ∧ Fr F0 w w' := by
  obtain ⟨C, hC⟩ : ∃ C, C = (zero20.map B8).toArray := ⟨_, rfl⟩
  have Z : C.size = 20 := by rw [hC]; exact zero20_size
  have o0 : rowOne C := by rw [hC]; exact zero20_one
  rw [← hC]
  replace hC := Lib.hid hC
  by_cases h1 : n = 21
  · subst h1
    have l1 : ((21 : Int) != 21) = false := rfl
    obtain ⟨g, off, rfl, hc⟩ := h.get8 0 (by omega)
    have h20 : b.getD 0 0 ≠ 20 := by
      intro e
      rw [opO, decide_eq_false_iff_not] at hq
      exact hq ⟨hn.symm, e⟩
    have l2 : (((b.getD 0 0).toNat : Int) != 20) = true := bne_iff_ne.2 (fun e => h20 (UInt8.toNat_inj.1 (by have : (b.getD 0 0).toNat = 20 := (by omega); rw [this]; rfl)))
    generalize ((b.getD 0 0).toNat : Int) = x at *
    rw [Nat.add_zero] at hc
    clear h hn hq h20
    go_enter Try.func19, Try.ntmps19
    go_upto_region 1 with fail
    refine wp_new fun W1 N1 => ?_
    have r2 := N1.new
    replace r2 : W1.heap[w.heap.size]? = some (.cells C 47 (0, 0)) := by rw [hC.out]; exact r2
    have F := N1.fr
    replace hc := F.cell (fun f => f) hc
    obtain ⟨g2, hg2⟩ : ∃ g, g = w.heap.size := ⟨_, rfl⟩
    rw [← hg2] at r2 ⊢
    replace hg2 := Lib.hid (Nat.le_of_eq hg2.symm)
    clear N1
    go_upto_region 2 with fail
    refine wp_new fun W2 N2 => ?_
    have r3 := N2.new
    replace r3 : W2.heap[W1.heap.size]? = some (.cells C 47 (0, 0)) := by rw [hC.out]; exact r3
    replace r2 := N2.old r2
    replace hc := N2.fr.cell (fun f => f) hc
    replace F := F.trans' N2.fr
    clear N2
    try rw [cell_at] at hc
    generalize W1.heap.size = g3 at *
    go_wp2
    refine bodyPost_ret (results_cell_row_tmp rfl _ _ g2 _ _ _ _ rfl (by rw [heap_setRow_at, r2]; rfl) Try.underlying47 rfl (by rw [Try.szAddress, Z])) rfl ⟨rfl, ?_⟩
    exact F.setRow (fun h => by have := hg2.out; omega) _
  · have l1 : ((n : Int) != 21) = true := bne_iff_ne.2 (by omega)
    clear h hn hq h1
    go_enter Try.func19, Try.ntmps19
    go_upto_region 1 with fail
    refine wp_new fun W1 N1 => ?_
    have r2 := N1.new
    replace r2 : W1.heap[w.heap.size]? = some (.cells C 47 (0, 0)) := by rw [hC.out]; exact r2
    have F := N1.fr
    obtain ⟨g2, hg2⟩ : ∃ g, g = w.heap.size := ⟨_, rfl⟩
    rw [← hg2] at r2 ⊢
    replace hg2 := Lib.hid (Nat.le_of_eq hg2.symm)
    clear N1
    go_upto_region 2 with fail
    refine wp_new fun W2 N2 => ?_
    have r3 := N2.new
    replace r3 : W2.heap[W1.heap.size]? = some (.cells C 47 (0, 0)) := by rw [hC.out]; exact r3
    replace r2 := N2.old r2
    replace F := F.trans' N2.fr
    clear N2
    try rw [cell_at] at hc
    generalize W1.heap.size = g3 at *
    go_wp2
    refine bodyPost_ret (results_cell_row_tmp rfl _ _ g2 _ _ _ _ rfl (by rw [heap_setRow_at, r2]; rfl) Try.underlying47 rfl (by rw [Try.szAddress, Z])) rfl ⟨rfl, ?_⟩
    exact F.setRow (fun h => by have := hg2.out; omega) _

set_option maxRecDepth 100000 in
set_option maxHeartbeats 8000000 in
theorem lOpener_yes (b : List UInt8) (a : Option Addr) (n c : Nat) (w : World) (h : Bs w a c b) (hn : n = b.length) (hq : opO b = true) :
    Calls Try.prog 19 #[.slice a n c] w fun e w' => e = .returned (.tuple #[.agg ((b.drop 1).map B8).toArray, .bool true]) ∧ Fr F0 w w' := by
  rw [opO, decide_eq_true_iff] at hq
  obtain ⟨h1, h2⟩ := hq
  obtain rfl : n = 21 := by omega
  have l1 : ((21 : Int) != 21) = false := rfl
  obtain ⟨g, off, rfl, hc⟩ := h.get8 0 (by omega)
  rw [h2] at hc
  rw [Nat.add_zero] at hc
  replace hc : w.cell? ⟨g, off, none⟩ = some (.int .u8 20) := hc
  have hA := Lib.hid (show (b.drop 1).length = 20 by rw [List.length_drop, h1])
  have hd := h.drop 1 (by omega)
  have hroom := h.room
  have sz : ((b.drop 1).map B8).toArray.size = 20 := by simp [h1]
  have on1 : rowOne ((b.drop 1).map B8).toArray := one_B8s _
  have ec : cutA (some ⟨g, off, none⟩) c 1 1 = some ⟨g, off + 1, none⟩ := by
    unfold cutA
    rw [if_neg (by omega)]
    simp [Addr.add_lit]
  rw [ec] at hd
  clear h hn h1 h2 hroom
  obtain ⟨C, hC⟩ : ∃ C, C = (zero20.map B8).toArray := ⟨_, rfl⟩
  have Z : C.size = 20 := by rw [hC]; exact zero20_size
  replace hC := Lib.hid hC
  generalize b.drop 1 = L at *
  go_enter Try.func19, Try.ntmps19
  go_upto_region 1 with fail
  refine wp_new fun W1 N1 => ?_
  have r2 := N1.new
  replace r2 : W1.heap[w.heap.size]? = some (.cells C 47 (0, 0)) := by rw [hC.out]; exact r2
  have F := N1.fr
  replace hc := F.cell (fun f => f) hc
  obtain ⟨g2, hg2⟩ : ∃ g, g = w.heap.size := ⟨_, rfl⟩
  rw [← hg2] at r2 ⊢
  replace hg2 := Lib.hid (Nat.le_of_eq hg2.symm)
  clear N1
  go_upto_region 2 with fail
  refine wp_new fun W2 N2 => ?_
  have r3 := N2.new
  replace r3 : W2.heap[W1.heap.size]? = some (.cells C 47 (0, 0)) := by rw [hC.out]; exact r3
  have ne := N2.ne r2
  replace r2 := N2.old r2
  replace hc := N2.fr.cell (fun f => f) hc
  have hg3 := Lib.hid F.size
  replace F := F.trans' N2.fr
  replace hd := Bs.fr7 hd F
  clear N2
  rw [cell_at] at hc
  generalize W1.heap.size = g3 at *
  go_upto_region 4 with fail
  have hcp := fun d => run_copy_addr (ty := 3) (d := d) (keep_drew r3) Z hA.out (Bs.fr7 hd (Fr.refl F0 _).drew)
  clear hd
  refine wp_region_noPanic ?_
  refine wp_region_held_drew (S := (fun w' => True)) (by kernel_rfl) ?_ (fun hHeld => ?_)
  · ((try dsimp only) <;> (trivial))
  refine rtake 0 ?_
  refine rtake 1 ?_
  refine rtake 2 ?_
  refine wpAnyH_ready (rs := [3]) (by kernel_rfl) (by simp) ?_
  refine AllReadyH.cons (o := ⟨_, _, _, _, _, _⟩) rfl (fun K hK => ?_) AllReadyH.nil
  go_simp
  refine hK.out _ _ ?_ (fun hHeld => ?_)
  · ((try dsimp only) <;> (trivial))
  clear hK K
  try (simp only [Act.put, List.setIfInBounds_toArray]; dsimp only [List.set_cons_zero, List.set_cons_succ])
  refine wpAnyH_done (by kernel_rfl) ?_ _
  refine NoPanic.normal ?_
  clear hcp hc
  replace r2 := keep_drew r2
  replace r3 := keep_drew r3
  replace F := F.drew
  generalize W2.drew = W3 at *
  go_wp2
  refine bodyPost_ret (results_cell_row_tmp rfl _ _ g2 _ _ _ _ rfl (by rw [heap_setRow_at, heap_setRow_ne _ _ _ _ ne, r2]; rfl) Try.underlying47 rfl (by rw [Try.szAddress, sz])) rfl ⟨rfl, ?_⟩
  exact (F.setRow (fun h => by have := hg3.out; omega) _).setRow (fun h => by have := hg2.out; omega) _
theorem lOpenerC : LOpenerC := by
  intro b a n c w h hn _
  cases hq : opO b
  · rw [show opA b = zero20 by simp [opA, hq]]
    exact lOpener_no b a n c w h hn hq
  · rw [show opA b = b.drop 1 by simp [opA, hq]]
    exact lOpener_yes b a n c w h hn hq
/-- What addressOf answers. -/
def aoO (b : List UInt8) : Bool := decide (b.length = 25 ∧ b.take 3 = [118, 169, 20] ∧ b.drop 23 = [136, 172])
def aoA (b : List UInt8) : List UInt8 := if aoO b then (b.drop 3).take 20 else zero20
theorem aoA_length (b : List UInt8) : (aoA b).length = 20 := by
  unfold aoA aoO
  split
  · rename_i h
    have := (of_decide_eq_true h).1
    simp; omega
  · rfl
theorem ao_eq {b : List UInt8} {n : Nat} (hn : n = b.length) (q1 : 2 ≤ n ∧ b.take 2 = [118, 169]) (q2 : 2 ≤ n - 2 ∧ (b.drop 2).drop (n - 2 - 2) = [136, 172]) : opO ((b.drop 2).take (n - 2 - 2)) = aoO b := by
  rw [opO, aoO, decide_eq_decide]
  rw [List.drop_drop] at q2
  have hx : ((b.drop 2).take (n - 2 - 2)).length = n - 4 := by rw [List.length_take, List.length_drop]; omega
  rw [hx]
  constructor
  · rintro ⟨h1, h2⟩
    obtain rfl : n = 25 := by omega
    have e : ((b.drop 2).take (25 - 2 - 2)).getD 0 0 = b.getD 2 0 := by simp [List.getD, List.getElem?_take, List.getElem?_drop]
    rw [e] at h2
    refine ⟨hn.symm, ?_, q2.2⟩
    rw [take_succ_getD b 2 (by omega), q1.2, h2]
    rfl
  · rintro ⟨h1, h2, h3⟩
    obtain rfl : n = 25 := by omega
    refine ⟨rfl, ?_⟩
    have e : ((b.drop 2).take (25 - 2 - 2)).getD 0 0 = (b.take 3).getD 2 0 := by simp [List.getD, List.getElem?_take, List.getElem?_drop]
    rw [e, h2]
    rfl
theorem ao_aeq {b : List UInt8} {n : Nat} (hn : n = b.length) (q1 : 2 ≤ n ∧ b.take 2 = [118, 169]) (q2 : 2 ≤ n - 2 ∧ (b.drop 2).drop (n - 2 - 2) = [136, 172]) : opA ((b.drop 2).take (n - 2 - 2)) = aoA b := by
  rw [opA, aoA, ao_eq hn q1 q2]
  split
  · rename_i h
    rw [aoO, decide_eq_true_iff] at h
    obtain rfl : n = 25 := by omega
    rw [List.drop_take, List.drop_drop]
  · rfl
theorem ao_no1 {b : List UInt8} {n : Nat} (hn : n = b.length) (q1 : ¬ (2 ≤ n ∧ b.take 2 = [118, 169])) : aoO b = false := by
  refine decide_eq_false fun h => q1 ⟨by omega, ?_⟩
  have e : b.take 2 = (b.take 3).take 2 := by rw [List.take_take]; rfl
  rw [e, h.2.1]
  rfl
theorem ao_no2 {b : List UInt8} {n : Nat} (hn : n = b.length) (q2 : ¬ (2 ≤ n - 2 ∧ (b.drop 2).drop (n - 2 - 2) = [136, 172])) : aoO b = false := by
  refine decide_eq_false fun h => q2 ⟨by omega, ?_⟩
  obtain rfl : n = 25 := by omega
  rw [List.drop_drop]
  exact h.2.2
set_option maxRecDepth 100000 in
set_option maxHeartbeats 8000000 in
theorem lAddrOf_any (b : List UInt8) (a : Option Addr) (n c : Nat) (w : World) (h : Bs w a c b) (hn : n = b.length) (hl : b.length ≤ 1000) :
    Calls Try.prog 38 #[.slice a n c] w fun e w' => e = .returned (.tuple #[.agg ((aoA b).map B8).toArray, .bool (aoO b)]) ∧ Fr F0 w w' := by
  have HB := Lib.hid h
  have H1 := Lib.hid (fun w hw g hg => bCutPrefix_any b [118, 169] a (some ⟨g, 0, none⟩) n 2 c 2 w hw hg hn rfl)
  replace hl := Lib.hid hl
  replace hn := Lib.hid hn
  have hz : ∀ w, (buildAd #[]).run Try.prog w = .ok (.agg (zero20.map B8).toArray) w := fun w => run_buildAd w #[] _ built_ad0
  obtain ⟨C, hC⟩ : ∃ C, C = (zero20.map B8).toArray := ⟨_, rfl⟩
  have Z : C.size = 20 := by rw [hC]; exact zero20_size
  have o0 : rowOne C := by rw [hC]; exact zero20_one
  rw [← hC] at hz
  replace hC := Lib.hid hC
  clear h
  go_enter Try.func38, Try.ntmps38
  go_upto_region 1 with fail
  refine wp_new fun W1 N1 => ?_
  have r2 := N1.new
  replace r2 : W1.heap[w.heap.size]? = some (.cells C 47 (0, 0)) := by rw [hC.out]; exact r2
  have F := N1.fr
  obtain ⟨g2, hg2⟩ : ∃ g, g = w.heap.size := ⟨_, rfl⟩
  rw [← hg2] at r2 ⊢
  replace hg2 := Lib.hid (Nat.le_of_eq hg2.symm)
  clear N1
  go_wp2_with fail
  refine calls_new fun W2 N2 => ?_
  replace r2 := N2.old r2
  replace F := F.trans' N2.fr
  have hb1 := Bs.of_r8 (L := [118, 169]) (n := 2) N2.new rfl (by omega)
  clear N2
  (with_reducible refine (H1.out _ (Bs.fr7 HB.out F) _ hb1).mono ?_); rintro e w3 ⟨rfl, hy, hx⟩
  clear hb1 H1
  by_cases q1 : 2 ≤ n ∧ b.take 2 = [118, 169]
  · replace hy := hy q1
    subst hy
    clear hx
    have HB2 := Lib.hid ((Bs.fr7 HB.out F).drop 2 (by have := hn.out; omega))
    have H2 := Lib.hid (fun w hw g hg => bCutSuffix_any (b.drop 2) [136, 172] (cutA a c 2 1) (some ⟨g, 0, none⟩) (n - 2) 2 (c - 2) 2 w hw hg (by rw [List.length_drop, hn.out]) rfl)
    go_wp2_with fail
    refine calls_new fun W4 N4 => ?_
    replace r2 := N4.old r2
    replace F := F.trans' N4.fr
    have hb1 := Bs.of_r8 (L := [136, 172]) (n := 2) N4.new rfl (by omega)
    have HB3 := Bs.fr7 HB2.out N4.fr
    clear N4
    (with_reducible refine (H2.out _ HB3 _ hb1).mono ?_); rintro e w3 ⟨rfl, hy, hx⟩
    clear hb1 H2
    by_cases q2 : 2 ≤ n - 2 ∧ (b.drop 2).drop (n - 2 - 2) = [136, 172]
    · replace hy := hy q2
      subst hy
      have H3 := Lib.hid (lOpenerC ((b.drop 2).take (n - 2 - 2)) (cutA a c 2 1) (n - 2 - 2) (c - 2) w3 (HB3.take _) (by rw [List.length_take, List.length_drop, ← hn.out]; omega) (by rw [List.length_take]; have := hn.out; have := hl.out; omega))
      have eO : opO ((b.drop 2).take (n - 2 - 2)) = aoO b := ao_eq hn.out q1 q2
      have eA : opA ((b.drop 2).take (n - 2 - 2)) = aoA b := ao_aeq hn.out q1 q2
      rw [eO, eA] at H3
      clear hx
      go_wp2_with fail
      (with_reducible refine H3.out.mono ?_); rintro e w5 ⟨rfl, f⟩
      replace r2 := keep_fr f r2
      replace F := F.trans' f
      have sA : ((aoA b).map B8).toArray.size = 20 := by simp [aoA_length]
      have oA : rowOne ((aoA b).map B8).toArray := one_B8s _
      clear f H3 eO eA
      go_wp2_with fail
      refine bodyPost_ret (results_cell_row_tmp rfl _ _ g2 _ _ _ _ rfl (by rw [heap_setRow_at, r2]; rfl) Try.underlying47 rfl (by rw [Try.szAddress, sA])) rfl ⟨rfl, ?_⟩
      exact F.setRow (fun h => by have := hg2.out; omega) _
    · replace hx := hx q2
      subst hx
      have eO : aoO b = false := ao_no2 hn.out q2
      clear hy
      go_wp2_with fail
      refine bodyPost_ret (results_cell_row_tmp rfl _ _ g2 _ _ _ _ rfl (by rw [heap_setRow_at, r2]; rfl) Try.underlying47 rfl (by rw [Try.szAddress, Z])) rfl ⟨?_, ?_⟩
      · rw [aoA, eO, hC.out]; rfl
      · exact F.setRow (fun h => by have := hg2.out; omega) _
  · replace hx := hx q1
    subst hx
    have eO : aoO b = false := ao_no1 hn.out q1
    clear hy
    go_wp2_with fail
    refine bodyPost_ret (results_cell_row_tmp rfl _ _ g2 _ _ _ _ rfl (by rw [heap_setRow_at, r2]; rfl) Try.underlying47 rfl (by rw [Try.szAddress, Z])) rfl ⟨?_, ?_⟩
    · rw [aoA, eO, hC.out]; rfl
    · exact F.setRow (fun h => by have := hg2.out; omega) _
/-- What tagOf answers. -/
def toO (b : List UInt8) : Bool := decide (3 ≤ b.length ∧ b.length ≤ 42 ∧ b.getD 0 0 = 106 ∧ (b.getD 1 0).toNat + 2 = b.length)
def toT (b : List UInt8) : List UInt8 := if toO b then b.drop 2 else []
set_option maxRecDepth 100000 in
set_option maxHeartbeats 8000000 in
theorem lTagOf_any (b : List UInt8) (a : Option Addr) (n c : Nat) (w : World) (h : Bs w a c b) (hn : n = b.length) (hl : b.length ≤ 1000) :
    Calls Try.prog 39 #[.slice a n c] w fun e w' => ∃ a' n' c', e = .returned (.tuple #[.slice a' n' c', .bool (toO b)]) ∧ n' = (toT b).length ∧ Bs w' a' c' (toT b) ∧ Fr F0 w w' ∧ ∀ k, ablk a' = some k → w.heap.size ≤ k := by
  have hno : toO b = false → ∃ a' n' c', Ending.returned (.tuple #[.slice none 0 0, .bool false]) = Ending.returned (.tuple #[.slice a' n' c', .bool (toO b)]) ∧ n' = (toT b).length ∧ Bs w a' c' (toT b) ∧ Fr F0 w w ∧ ∀ k, ablk a' = some k → w.heap.size ≤ k := fun e => by
    rw [toT, e]
    exact ⟨none, 0, 0, rfl, rfl, Bs.nothing w, Fr.refl _ _, fun k h => by cases h⟩
  by_cases h1 : n < 2
  · have hq : toO b = false := decide_eq_false fun h => by omega
    have l1 : (n : Int) < 2 := by omega
    replace hno := Lib.hid (hno hq)
    clear h hn hl h1 hq
    go_enter Try.func39, Try.ntmps39
    go_wp2
    go_ret2
    exact hno.out
  · have l1 : ¬ (n : Int) < 2 := by omega
    obtain ⟨g, off, rfl, hc⟩ := h.get8 0 (by omega)
    obtain ⟨g', off', e', hc1⟩ := h.get8 1 (by omega)
    obtain ⟨rfl, rfl⟩ : g = g' ∧ off = off' := by simpa using e'
    clear e'
    rw [Nat.add_zero] at hc
    by_cases h2 : b.getD 0 0 = 106
    · have l2 : ((106 : Int) != 106) = false := rfl
      rw [h2] at hc
      replace hc : w.cell? ⟨g, off, none⟩ = some (.int .u8 106) := hc
      have hroom := h.room
      have hmost := h.most
      unfold maxLen at hmost
      have hx := (b.getD 1 0).toNat_lt
      obtain ⟨x, hxe⟩ : ∃ x, x = (b.getD 1 0).toNat := ⟨_, rfl⟩
      rw [← hxe] at hc1 hx
      have hd := h.drop 2 (by omega)
      have ed : (b.drop 2).length = n - 2 := by rw [List.length_drop, hn]
      have HC := Lib.hid (fun a c hb => Clone_any a (n - 2) c (b.drop 2) w hb ed.symm (by omega))
      have HI := Lib.hid (fun w => lIsTag_any ((n - 2 : Nat) : Int) w)
      have l6 : (x : Int) % 4294967296 = (x : Int) := by omega
      rw [cell_at] at hc hc1
      have lw : IntKind.i64.wrap (x : Int) = (x : Int) := by rw [IntKind.wrap_i64]; omega
      by_cases h3 : x = n - 2
      · have l4 : ((x : Int) != ((n - 2 : Nat) : Int)) = false := by rw [h3]; exact bne_self_eq_false _
        by_cases h4 : 1 ≤ n - 2 ∧ n - 2 ≤ 40
        · have hq : toO b = true := decide_eq_true ⟨by omega, by omega, h2, by omega⟩
          have eT : toT b = b.drop 2 := by rw [toT, hq]; rfl
          have hz : (decide (1 ≤ ((n - 2 : Nat) : Int)) && decide (((n - 2 : Nat) : Int) ≤ 40)) = true := by rw [decide_eq_true (by omega), decide_eq_true (by omega)]; rfl
          rw [hz] at HI
          rw [eT, hq]
          unfold NewBytes at HC
          rw [ed] at HC ⊢
          replace hd := Lib.hid hd
          have hc2 : ¬ c = 2 := by omega
          have ec : cutA (some ⟨g, off, none⟩) c 2 1 = some ⟨g, off + 2, none⟩ := by
            unfold cutA
            rw [if_neg hc2]
            simp [Addr.add_lit]
          rw [ec] at hd
          subst h3
          clear h hn hl h1 hq h2 h4 hz hno hroom hmost hxe hx ed ec
          go_enter Try.func39, Try.ntmps39
          go_wp2_with fail
          (with_reducible refine (HI.out _).mono ?_); rintro e w3 ⟨rfl, rfl⟩
          go_wp2_with fail
          (with_reducible refine (HC.out _ _ hd.out).mono ?_); rintro e w4 ⟨a4, c4, rfl, hb4, f4, n4⟩
          replace n4 := Lib.hid n4; clear HC HI hc hc1
          replace hb4 := Lib.hid hb4
          go_wp2_with fail
          go_ret2
          exact ⟨a4, _, c4, rfl, rfl, hb4.out, f4, fun k hk => (n4.out k hk).1⟩
        · have hq : toO b = false := decide_eq_false fun h => by omega
          have hz : (decide (1 ≤ ((n - 2 : Nat) : Int)) && decide (((n - 2 : Nat) : Int) ≤ 40)) = false := by
            by_cases h5 : 1 ≤ n - 2
            · rw [decide_eq_false (show ¬ ((n - 2 : Nat) : Int) ≤ 40 by omega), Bool.and_false]
            · rw [decide_eq_false (show ¬ 1 ≤ ((n - 2 : Nat) : Int) by omega), Bool.false_and]
          rw [hz] at HI
          subst h3
          replace hno := Lib.hid (hno hq)
          clear h hn hl h1 hq h2 h4 hz hroom hmost hxe hx ed hd HC
          go_enter Try.func39, Try.ntmps39
          go_wp2_with fail
          all_goals
            (with_reducible refine (HI.out _).mono ?_); rintro e w3 ⟨rfl, rfl⟩
            go_wp2_with fail
            go_ret2
            exact hno.out
      · have l4 : ((x : Int) != ((n - 2 : Nat) : Int)) = true := bne_iff_ne.2 (by omega)
        have l5 : ¬ (x : Int) = ((n - 2 : Nat) : Int) := by omega
        have hq : toO b = false := decide_eq_false fun h => by omega
        replace hno := Lib.hid (hno hq)
        clear h hn hl h1 hq h2 h3 hroom hmost hxe hx ed hd HC HI
        go_enter Try.func39, Try.ntmps39
        go_wp2_with fail
        all_goals
          go_ret2
          exact hno.out
    · have l2 : (((b.getD 0 0).toNat : Int) != 106) = true := bne_iff_ne.2 (fun e => h2 (UInt8.toNat_inj.1 (by have : (b.getD 0 0).toNat = 106 := (by omega); rw [this]; rfl)))
      have hq : toO b = false := decide_eq_false fun h => h2 h.2.2.1
      replace hno := Lib.hid (hno hq)
      rw [cell_at] at hc
      generalize ((b.getD 0 0).toNat : Int) = x at *
      clear h hn hl h1 hq h2 hc1
      go_enter Try.func39, Try.ntmps39
      go_wp2_with fail
      all_goals
        go_ret2
        exact hno.out
theorem lkP_ao (b : List UInt8) : lkP b = if aoO b = true then (1, aoA b, []) else if toO b = true then (2, zero20, toT b) else (0, zero20, []) := by
  unfold lkP
  by_cases h1 : aoO b = true
  · rw [if_pos h1, aoA, if_pos h1, if_pos (of_decide_eq_true h1)]
  · rw [if_neg h1, if_neg (fun h => h1 (decide_eq_true h))]
    by_cases h2 : toO b = true
    · rw [if_pos h2, toT, if_pos h2, if_pos (of_decide_eq_true h2)]
    · rw [if_neg h2, if_neg (fun h => h2 (decide_eq_true h))]
set_option maxRecDepth 100000 in
set_option maxHeartbeats 8000000 in
theorem lParseC : LParseC := by
  intro b a n c w h hn hl
  have HB := Lib.hid h
  have HA := Lib.hid (fun w hw => lAddrOf_any b a n c w hw hn hl)
  have HT := Lib.hid (fun w hw => lTagOf_any b a n c w hw hn hl)
  obtain ⟨C0, hC0⟩ : ∃ C, C = lkC 0 zero20 (.slice none 0 0) := ⟨_, rfl⟩
  obtain ⟨A0, hA0⟩ : ∃ C, C = (zero20.map B8).toArray := ⟨_, rfl⟩
  have Z0 : C0.size = 22 := by rw [hC0]; rfl
  have ZA : A0.size = 20 := by rw [hA0]; exact zero20_size
  replace hC0 := Lib.hid hC0
  replace hA0 := Lib.hid hA0
  clear h hn hl
  rw [lkP_ao]
  by_cases q1 : aoO b = true
  · rw [if_pos q1]
    rw [q1] at HA
    have hbl := fun w => run_buildLk w #[(0, .int .i64 1), (1, .agg ((aoA b).map B8).toArray)] _ (built_lk1 (aoA b) (aoA_length b))
    obtain ⟨C, hC⟩ : ∃ C, C = lkC 1 (aoA b) (.slice none 0 0) := ⟨_, rfl⟩
    have sK : C.size = 22 := by rw [hC]; exact (LkC.of (k := 1) (aoA_length b) (.slice none 0 0)).size
    have K1 : rowOne C := by rw [hC]; exact lkC_one
    rw [← hC] at hbl
    replace hC := Lib.hid hC
    have sA : ((aoA b).map B8).toArray.size = 20 := by simp [aoA_length]
    have oA : rowOne ((aoA b).map B8).toArray := one_B8s _
    dsimp only
    generalize ((aoA b).map B8).toArray = A at *
    clear HT
    go_enter Try.func15, Try.ntmps15
    go_upto_region 1 with fail
    refine wp_new fun W1 N1 => ?_
    have r2 := N1.new
    replace r2 : W1.heap[w.heap.size]? = some (.cells C0 58 (0, 0)) := by rw [hC0.out]; exact r2
    have F := N1.fr
    obtain ⟨g2, hg2⟩ : ∃ g, g = w.heap.size := ⟨_, rfl⟩
    rw [← hg2] at r2 ⊢
    replace hg2 := Lib.hid (Nat.le_of_eq hg2.symm)
    clear N1
    go_wp2_with fail
    (with_reducible refine (HA.out _ (Bs.fr7 HB.out F)).mono ?_); rintro e w3 ⟨rfl, f⟩
    replace r2 := keep_fr f r2
    replace F := F.trans' f
    clear f HA
    go_upto_region 2 with fail
    refine wp_put fun W4 N4 => ?_
    have r3 := N4.new
    replace r2 := N4.old r2
    replace F := F.trans' N4.fr
    clear N4
    generalize w3.heap.size = g3 at *
    go_wp2
    refine bodyPost_ret (results_cell_row rfl _ _ g2 _ _ _ _ rfl (by rw [heap_setRow_at, r2]; rfl) Try.underlying58 rfl (by rw [Try.szLock, sK])) rfl ⟨none, 0, 0, by rw [hC.out], rfl, Bs.nothing _, ?_⟩
    exact F.setRow (fun h => by have := hg2.out; omega) _
  · rw [if_neg q1]
    rw [show aoO b = false by simpa using q1] at HA
    have eA : aoA b = zero20 := by rw [aoA, if_neg q1]
    rw [eA] at HA
    rw [← hA0.out] at HA
    have oA : rowOne A0 := by rw [hA0.out]; exact one_B8s _
    clear q1 eA
    by_cases q2 : toO b = true
    · rw [if_pos q2]
      rw [q2] at HT
      have hbl := fun w a n c => run_buildLk w #[(0, .int .i64 2), (2, .slice a n c)] _ (built_lk2 a n c)
      have sK : ∀ a n c, (lkC 2 zero20 (.slice a n c)).size = 22 := fun a n c => (LkC.of (k := 2) (A := zero20) rfl (.slice a n c)).size
      have K1 : ∀ a n c, rowOne (lkC 2 zero20 (.slice a n c)) := fun a n c => lkC_one
      dsimp only
      go_enter Try.func15, Try.ntmps15
      go_upto_region 1 with fail
      refine wp_new fun W1 N1 => ?_
      have r2 := N1.new
      replace r2 : W1.heap[w.heap.size]? = some (.cells C0 58 (0, 0)) := by rw [hC0.out]; exact r2
      have F := N1.fr
      obtain ⟨g2, hg2⟩ : ∃ g, g = w.heap.size := ⟨_, rfl⟩
      rw [← hg2] at r2 ⊢
      replace hg2 := Lib.hid (Nat.le_of_eq hg2.symm)
      clear N1
      go_wp2_with fail
      (with_reducible refine (HA.out _ (Bs.fr7 HB.out F)).mono ?_); rintro e w3 ⟨rfl, f⟩
      replace r2 := keep_fr f r2
      replace F := F.trans' f
      clear f HA
      go_upto_region 2 with fail
      refine wp_put fun W4 N4 => ?_
      replace r2 := N4.old r2
      replace F := F.trans' N4.fr
      clear N4
      have h2 := Lib.hid (Array.getElem?_eq_some_iff.1 r2).1
      generalize w3.heap.size = g3 at *
      go_wp2_with fail
      (with_reducible refine (HT.out _ (Bs.fr7 HB.out F)).mono ?_); rintro e w5 ⟨a5, n5, c5, rfl, hn5, hb5, f, k5⟩
      replace r2 := keep_fr f r2
      replace F := F.trans' f
      replace k5 := Lib.hid (show ∀ k, ablk a5 = some k → k ≠ g2 from fun k hk e => by have h1 := k5 k hk; have h3 := h2.out; omega)
      replace hn5 := Lib.hid hn5
      replace hb5 := Lib.hid hb5
      have sK5 := sK a5 n5 c5
      have K5 := K1 a5 n5 c5
      have hbl5 := fun w => hbl w a5 n5 c5
      obtain ⟨C, hC⟩ : ∃ C, C = lkC 2 zero20 (.slice a5 n5 c5) := ⟨_, rfl⟩
      rw [← hC] at sK5 K5 hbl5
      replace hC := Lib.hid hC
      clear f HT hbl sK K1
      go_wp2
      have f2 : Fr (fun k => k = g2) w5 (w5.setRow g2 C) := Fr.setRow (Fr.refl (fun k => k = g2) w5) (fun _ => rfl) C
      refine bodyPost_ret (results_cell_row rfl _ _ g2 _ _ _ _ rfl (by rw [heap_setRow_at, r2]; rfl) Try.underlying58 rfl (by rw [Try.szLock, sK5])) rfl ⟨a5, n5, c5, by rw [hC.out], hn5.out, ?_, ?_⟩
      · exact Sl.fr hb5.out f2 fun k hk e => k5.out k hk e
      · exact F.setRow (fun h => by have := hg2.out; omega) _
    · rw [if_neg q2]
      rw [show toO b = false by simpa using q2] at HT
      have eT : toT b = [] := by rw [toT, if_neg q2]
      rw [eT] at HT
      have hbl := fun w => run_buildLk w #[(0, .int .i64 0)] _ (show Try.prog.built 58 [(0, .int .i64 0)] = some (lkC 0 zero20 (.slice none 0 0)) by kernel_rfl)
      have K1 : rowOne C0 := by rw [hC0.out]; exact lkC_one
      rw [← hC0.out] at hbl
      dsimp only
      go_enter Try.func15, Try.ntmps15
      go_upto_region 1 with fail
      refine wp_new fun W1 N1 => ?_
      have r2 := N1.new
      replace r2 : W1.heap[w.heap.size]? = some (.cells C0 58 (0, 0)) := by rw [hC0.out]; exact r2
      have F := N1.fr
      obtain ⟨g2, hg2⟩ : ∃ g, g = w.heap.size := ⟨_, rfl⟩
      rw [← hg2] at r2 ⊢
      replace hg2 := Lib.hid (Nat.le_of_eq hg2.symm)
      clear N1
      go_wp2_with fail
      (with_reducible refine (HA.out _ (Bs.fr7 HB.out F)).mono ?_); rintro e w3 ⟨rfl, f⟩
      replace r2 := keep_fr f r2
      replace F := F.trans' f
      clear f HA
      go_upto_region 2 with fail
      refine wp_put fun W4 N4 => ?_
      replace r2 := N4.old r2
      replace F := F.trans' N4.fr
      clear N4
      have h2 := Lib.hid (Array.getElem?_eq_some_iff.1 r2).1
      generalize w3.heap.size = g3 at *
      go_wp2_with fail
      (with_reducible refine (HT.out _ (Bs.fr7 HB.out F)).mono ?_); rintro e w5 ⟨a5, n5, c5, rfl, hn5, hb5, f, k5⟩
      replace r2 := keep_fr f r2
      replace F := F.trans' f
      clear f HT hn5 hb5 k5 h2
      go_wp2
      refine bodyPost_ret (results_cell_row rfl _ _ g2 _ _ _ _ rfl (by rw [heap_setRow_at, r2]; rfl) Try.underlying58 rfl (by rw [Try.szLock, Z0])) rfl ⟨none, 0, 0, by rw [hC0.out], rfl, Bs.nothing _, ?_⟩
      exact F.setRow (fun h => by have := hg2.out; omega) _
end Go.Proofs.Ythoaalnjmklclaa

/- Layer 8 (lock): Parse, and that the tag is new memory. -/
namespace Go.Proofs.Ythoaalnjmklclaa
set_option linter.unusedVariables false
set_option linter.unusedSimpArgs false
open Go.RowKit

set_option maxRecDepth 100000 in
set_option maxHeartbeats 8000000 in
theorem lParseN (b : List UInt8) (a : Option Addr) (n c : Nat) (w : World) (h : Bs w a c b) (hn : n = b.length) (hl : b.length ≤ 1000) :
    Calls Try.prog 15 #[.slice a n c] w fun e w' => ∃ a' n' c', e = .returned (.agg (lkC (lkP b).1 (lkP b).2.1 (.slice a' n' c'))) ∧ n' = (lkP b).2.2.length ∧ Bs w' a' c' (lkP b).2.2 ∧ Fr F0 w w' ∧ ∀ k, ablk a' = some k → w.heap.size ≤ k := by
  have HB := Lib.hid h
  have HA := Lib.hid (fun w hw => lAddrOf_any b a n c w hw hn hl)
  have HT := Lib.hid (fun w hw => lTagOf_any b a n c w hw hn hl)
  obtain ⟨C0, hC0⟩ : ∃ C, C = lkC 0 zero20 (.slice none 0 0) := ⟨_, rfl⟩
  obtain ⟨A0, hA0⟩ : ∃ C, C = (zero20.map B8).toArray := ⟨_, rfl⟩
  have Z0 : C0.size = 22 := by rw [hC0]; rfl
  have ZA : A0.size = 20 := by rw [hA0]; exact zero20_size
  replace hC0 := Lib.hid hC0
  replace hA0 := Lib.hid hA0
  clear h hn hl
  rw [lkP_ao]
  by_cases q1 : aoO b = true
  · rw [if_pos q1]
    rw [q1] at HA
    have hbl := fun w => run_buildLk w #[(0, .int .i64 1), (1, .agg ((aoA b).map B8).toArray)] _ (built_lk1 (aoA b) (aoA_length b))
    obtain ⟨C, hC⟩ : ∃ C, C = lkC 1 (aoA b) (.slice none 0 0) := ⟨_, rfl⟩
    have sK : C.size = 22 := by rw [hC]; exact (LkC.of (k := 1) (aoA_length b) (.slice none 0 0)).size
    have K1 : rowOne C := by rw [hC]; exact lkC_one
    rw [← hC] at hbl
    replace hC := Lib.hid hC
    have sA : ((aoA b).map B8).toArray.size = 20 := by simp [aoA_length]
    have oA : rowOne ((aoA b).map B8).toArray := one_B8s _
    dsimp only
    generalize ((aoA b).map B8).toArray = A at *
    clear HT
    go_enter Try.func15, Try.ntmps15
    go_upto_region 1 with fail
    refine wp_new fun W1 N1 => ?_
    have r2 := N1.new
    replace r2 : W1.heap[w.heap.size]? = some (.cells C0 58 (0, 0)) := by rw [hC0.out]; exact r2
    have F := N1.fr
    obtain ⟨g2, hg2⟩ : ∃ g, g = w.heap.size := ⟨_, rfl⟩
    rw [← hg2] at r2 ⊢
    replace hg2 := Lib.hid (Nat.le_of_eq hg2.symm)
    clear N1
    go_wp2_with fail
    (with_reducible refine (HA.out _ (Bs.fr7 HB.out F)).mono ?_); rintro e w3 ⟨rfl, f⟩
    replace r2 := keep_fr f r2
    replace F := F.trans' f
    clear f HA
    go_upto_region 2 with fail
    refine wp_put fun W4 N4 => ?_
    have r3 := N4.new
    replace r2 := N4.old r2
    replace F := F.trans' N4.fr
    clear N4
    generalize w3.heap.size = g3 at *
    go_wp2
    refine bodyPost_ret (results_cell_row rfl _ _ g2 _ _ _ _ rfl (by rw [heap_setRow_at, r2]; rfl) Try.underlying58 rfl (by rw [Try.szLock, sK])) rfl ⟨none, 0, 0, by rw [hC.out], rfl, Bs.nothing _, ?_, fun k e => (by cases e)⟩
    exact F.setRow (fun h => by have := hg2.out; omega) _
  · rw [if_neg q1]
    rw [show aoO b = false by simpa using q1] at HA
    have eA : aoA b = zero20 := by rw [aoA, if_neg q1]
    rw [eA] at HA
    rw [← hA0.out] at HA
    have oA : rowOne A0 := by rw [hA0.out]; exact one_B8s _
    clear q1 eA
    by_cases q2 : toO b = true
    · rw [if_pos q2]
      rw [q2] at HT
      have hbl := fun w a n c => run_buildLk w #[(0, .int .i64 2), (2, .slice a n c)] _ (built_lk2 a n c)
      have sK : ∀ a n c, (lkC 2 zero20 (.slice a n c)).size = 22 := fun a n c => (LkC.of (k := 2) (A := zero20) rfl (.slice a n c)).size
      have K1 : ∀ a n c, rowOne (lkC 2 zero20 (.slice a n c)) := fun a n c => lkC_one
      dsimp only
      go_enter Try.func15, Try.ntmps15
      go_upto_region 1 with fail
      refine wp_new fun W1 N1 => ?_
      have r2 := N1.new
      replace r2 : W1.heap[w.heap.size]? = some (.cells C0 58 (0, 0)) := by rw [hC0.out]; exact r2
      have F := N1.fr
      obtain ⟨g2, hg2⟩ : ∃ g, g = w.heap.size := ⟨_, rfl⟩
      rw [← hg2] at r2 ⊢
      replace hg2 := Lib.hid (Nat.le_of_eq hg2.symm)
      clear N1
      go_wp2_with fail
      (with_reducible refine (HA.out _ (Bs.fr7 HB.out F)).mono ?_); rintro e w3 ⟨rfl, f⟩
      replace r2 := keep_fr f r2
      replace F := F.trans' f
      clear f HA
      go_upto_region 2 with fail
      refine wp_put fun W4 N4 => ?_
      replace r2 := N4.old r2
      replace F := F.trans' N4.fr
      clear N4
      have h2 := Lib.hid (Array.getElem?_eq_some_iff.1 r2).1
      generalize w3.heap.size = g3 at *
      go_wp2_with fail
      (with_reducible refine (HT.out _ (Bs.fr7 HB.out F)).mono ?_); rintro e w5 ⟨a5, n5, c5, rfl, hn5, hb5, f, k5⟩
      have kN := Lib.hid (show ∀ k, ablk a5 = some k → w.heap.size ≤ k from fun k hk => Nat.le_trans F.size (k5 k hk))
      replace r2 := keep_fr f r2
      replace F := F.trans' f
      replace k5 := Lib.hid (show ∀ k, ablk a5 = some k → k ≠ g2 from fun k hk e => by have h1 := k5 k hk; have h3 := h2.out; omega)
      replace hn5 := Lib.hid hn5
      replace hb5 := Lib.hid hb5
      have sK5 := sK a5 n5 c5
      have K5 := K1 a5 n5 c5
      have hbl5 := fun w => hbl w a5 n5 c5
      obtain ⟨C, hC⟩ : ∃ C, C = lkC 2 zero20 (.slice a5 n5 c5) := ⟨_, rfl⟩
      rw [← hC] at sK5 K5 hbl5
      replace hC := Lib.hid hC
      clear f HT hbl sK K1
      go_wp2
      have f2 : Fr (fun k => k = g2) w5 (w5.setRow g2 C) := Fr.setRow (Fr.refl (fun k => k = g2) w5) (fun _ => rfl) C
      refine bodyPost_ret (results_cell_row rfl _ _ g2 _ _ _ _ rfl (by rw [heap_setRow_at, r2]; rfl) Try.underlying58 rfl (by rw [Try.szLock, sK5])) rfl ⟨a5, n5, c5, by rw [hC.out], hn5.out, ?_, ?_, kN.out⟩
      · exact Sl.fr hb5.out f2 fun k hk e => k5.out k hk e
      · exact F.setRow (fun h => by have := hg2.out; omega) _
    · rw [if_neg q2]
      rw [show toO b = false by simpa using q2] at HT
      have eT : toT b = [] := by rw [toT, if_neg q2]
      rw [eT] at HT
      have hbl := fun w => run_buildLk w #[(0, .int .i64 0)] _ (show Try.prog.built 58 [(0, .int .i64 0)] = some (lkC 0 zero20 (.slice none 0 0)) by kernel_rfl)
      have K1 : rowOne C0 := by rw [hC0.out]; exact lkC_one
      rw [← hC0.out] at hbl
      dsimp only
      go_enter Try.func15, Try.ntmps15
      go_upto_region 1 with fail
      refine wp_new fun W1 N1 => ?_
      have r2 := N1.new
      replace r2 : W1.heap[w.heap.size]? = some (.cells C0 58 (0, 0)) := by rw [hC0.out]; exact r2
      have F := N1.fr
      obtain ⟨g2, hg2⟩ : ∃ g, g = w.heap.size := ⟨_, rfl⟩
      rw [← hg2] at r2 ⊢
      replace hg2 := Lib.hid (Nat.le_of_eq hg2.symm)
      clear N1
      go_wp2_with fail
      (with_reducible refine (HA.out _ (Bs.fr7 HB.out F)).mono ?_); rintro e w3 ⟨rfl, f⟩
      replace r2 := keep_fr f r2
      replace F := F.trans' f
      clear f HA
      go_upto_region 2 with fail
      refine wp_put fun W4 N4 => ?_
      replace r2 := N4.old r2
      replace F := F.trans' N4.fr
      clear N4
      have h2 := Lib.hid (Array.getElem?_eq_some_iff.1 r2).1
      generalize w3.heap.size = g3 at *
      go_wp2_with fail
      (with_reducible refine (HT.out _ (Bs.fr7 HB.out F)).mono ?_); rintro e w5 ⟨a5, n5, c5, rfl, hn5, hb5, f, k5⟩
      replace r2 := keep_fr f r2
      replace F := F.trans' f
      clear f HT hn5 hb5 k5 h2
      go_wp2
      refine bodyPost_ret (results_cell_row rfl _ _ g2 _ _ _ _ rfl (by rw [heap_setRow_at, r2]; rfl) Try.underlying58 rfl (by rw [Try.szLock, Z0])) rfl ⟨none, 0, 0, by rw [hC0.out], rfl, Bs.nothing _, ?_, fun k e => (by cases e)⟩
      exact F.setRow (fun h => by have := hg2.out; omega) _
end Go.Proofs.Ythoaalnjmklclaa
