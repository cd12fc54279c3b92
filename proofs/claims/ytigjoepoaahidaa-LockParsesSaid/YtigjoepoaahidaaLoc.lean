/- Layer 8 (lock), the program's own: Opener, addressOf, tagOf, Parse. -/
import Derived.Test.YtigjoepoaahidaaRt
import Derived.Test.YtigjoepoaahidaaLoa
import Derived.Test.YtigjoepoaahidaaLob
import Derived.Test.YtigjoepoaahidaaOctB
import Derived.Test.YtigjoepoaahidaaRes
import Derived.Laws.Cover3
import Derived.Deep.RegionHeld3
import Derived.OrdersHeld
namespace Go.Proofs.Ytigjoepoaahidaa
set_option linter.unusedVariables false
set_option linter.unusedSimpArgs false
open Go.RowKit

/-- copy of 20 bytes into a whole address. -/
theorem run_copy_addr {w : World} {g c d : Nat} {a : Addr} {Z : Array Value} {l : List UInt8} {ty : TypeId} (hg : w.heap[g]? = some (.cells Z 23 (0, 0))) (hz : Z.size = 20) (hl : l.length = 20) (hb : Bs w (some a) c l) :
    (Builtin.copy_ #[24, 24] ty #[.slice (some ⟨g, 0, none⟩) 20 20, .slice (some a) 20 d]).run Try.prog w = .ok (.int .i64 20) (w.setRow g (l.map B8).toArray) := by
  have key := run_copy_row (P := Try.prog) w 24 24 ty 5 g 0 20 20 a 20 d Z 23 (l.map B8) Try.underlying24 (by kernel_rfl) hg (by simp [hl]) (fun j v hj => by
      obtain ⟨b', o', e, hc⟩ := hb.cell j v hj
      cases e
      rw [Addr.add_lit]
      exact hc) (by simp [hl, hz]) (by intro v hv; simp only [List.mem_map] at hv; obtain ⟨i, _, rfl⟩ := hv; rfl)
  rw [key]
  have e : (Z.toList.take 0 ++ l.map B8 ++ Z.toList.drop (0 + (l.map B8).length)).toArray = (l.map B8).toArray := by
    rw [List.take_zero, List.nil_append, List.drop_eq_nil_of_le (by simp [hz, hl]), List.append_nil]
  rw [e]
  simp [goInt, hl]

theorem zero20_size : (zero20.map B8).toArray.size = 20 := rfl
theorem zero20_one : rowOne (zero20.map B8).toArray := one_B8s _
theorem Bs.get8 {w : World} {a : Option Addr} {c : Nat} {l : List UInt8} (h : Bs w a c l) (j : Nat) (hj : j < l.length) : ∃ b off, a = some ⟨b, off, none⟩ ∧ w.cell? ⟨b, off + j, none⟩ = some (.int .u8 ((l.getD j 0).toNat : Int)) := by
  obtain ⟨b, off, e, hc⟩ := h.at j hj
  exact ⟨b, off, e, by rw [hc]; simp [List.getD, List.getElem?_eq_getElem hj]⟩
set_option maxRecDepth 100000 in
set_option maxHeartbeats 8000000 in
theorem lOpener_no (b : List UInt8) (a : Option Addr) (n c : Nat) (w : World) (h : Bs w a c b) (hn : n = b.length) (hq : opO b = false) :
    Calls Try.prog 8 #[.slice a n c] w fun e w' => e = .returned (.tuple #[.agg (zero20.map B8).toArray, .bool false]) ∧ Fr F0 w w' := by
  obtain ⟨C, hC⟩ : ∃ C, C = (zero20.map B8).toArray := ⟨_, rfl⟩
  have Z : C.size = 20 := by rw [hC]; exact zero20_size
  have o0 : rowOne C := by rw [hC]; exact zero20_one
  rw [← hC]
  replace hC := Lib.hid hC
  by_cases h1 : n = 21
  · subst h1
    have l1 : ((21 : Int) != 21) = false := rfl
    obtain ⟨g, off, rfl, hc⟩ := h.get8 0 (by omega)
    have h20 : b.getD 0 0 ≠ 20 := by
      intro e
      rw [opO, decide_eq_false_iff_not] at hq
      exact hq ⟨hn.symm, e⟩
    have l2 : (((b.getD 0 0).toNat : Int) != 20) = true := bne_iff_ne.2 (fun e => h20 (UInt8.toNat_inj.1 (by have : (b.getD 0 0).toNat = 20 := (by omega); rw [this]; rfl)))
    generalize ((b.getD 0 0).toNat : Int) = x at *
    rw [Nat.add_zero] at hc
    clear h hn hq h20
    go_enter Try.func8, Try.ntmps8
    go_upto_region 1 with fail
    refine wp_new fun W1 N1 => ?_
    have r2 := N1.new
    replace r2 : W1.heap[w.heap.size]? = some (.cells C 23 (0, 0)) := by rw [hC.out]; exact r2
    have F := N1.fr
    replace hc := F.cell (fun f => f) hc
    obtain ⟨g2, hg2⟩ : ∃ g, g = w.heap.size := ⟨_, rfl⟩
    rw [← hg2] at r2 ⊢
    replace hg2 := Lib.hid (Nat.le_of_eq hg2.symm)
    clear N1
    go_upto_region 2 with fail
    refine wp_new fun W2 N2 => ?_
    have r3 := N2.new
    replace r3 : W2.heap[W1.heap.size]? = some (.cells C 23 (0, 0)) := by rw [hC.out]; exact r3
    replace r2 := N2.old r2
    replace hc := N2.fr.cell (fun f => f) hc
    replace F := F.trans' N2.fr
    clear N2
    try rw [cell_at] at hc
    generalize W1.heap.size = g3 at *
    go_wp2
    refine bodyPost_ret (results_cell_row_tmp rfl _ _ g2 _ _ _ _ rfl (by rw [heap_setRow_at, r2]; rfl) Try.underlying23 rfl (by rw [Try.szAddress, Z])) rfl ⟨rfl, ?_⟩
    exact F.setRow (fun h => by have := hg2.out; omega) _
  · have l1 : ((n : Int) != 21) = true := bne_iff_ne.2 (by omega)
    clear h hn hq h1
    go_enter Try.func8, Try.ntmps8
    go_upto_region 1 with fail
    refine wp_new fun W1 N1 => ?_
    have r2 := N1.new
    replace r2 : W1.heap[w.heap.size]? = some (.cells C 23 (0, 0)) := by rw [hC.out]; exact r2
    have F := N1.fr
    obtain ⟨g2, hg2⟩ : ∃ g, g = w.heap.size := ⟨_, rfl⟩
    rw [← hg2] at r2 ⊢
    replace hg2 := Lib.hid (Nat.le_of_eq hg2.symm)
    clear N1
    go_upto_region 2 with fail
    refine wp_new fun W2 N2 => ?_
    have r3 := N2.new
    replace r3 : W2.heap[W1.heap.size]? = some (.cells C 23 (0, 0)) := by rw [hC.out]; exact r3
    replace r2 := N2.old r2
    replace F := F.trans' N2.fr
    clear N2
    try rw [cell_at] at hc
    generalize W1.heap.size = g3 at *
    go_wp2
    refine bodyPost_ret (results_cell_row_tmp rfl _ _ g2 _ _ _ _ rfl (by rw [heap_setRow_at, r2]; rfl) Try.underlying23 rfl (by rw [Try.szAddress, Z])) rfl ⟨rfl, ?_⟩
    exact F.setRow (fun h => by have := hg2.out; omega) _

set_option maxRecDepth 100000 in
set_option maxHeartbeats 8000000 in
theorem lOpener_yes (b : List UInt8) (a : Option Addr) (n c : Nat) (w : World) (h : Bs w a c b) (hn : n = b.length) (hq : opO b = true) :
    Calls Try.prog 8 #[.slice a n c] w fun e w' => e = .returned (.tuple #[.agg ((b.drop 1).map B8).toArray, .bool true]) ∧ Fr F0 w w' := by
  rw [opO, decide_eq_true_iff] at hq
  obtain ⟨h1, h2⟩ := hq
  obtain rfl : n = 21 := by omega
  have l1 : ((21 : Int) != 21) = false := rfl
  obtain ⟨g, off, rfl, hc⟩ := h.get8 0 (by omega)
  rw [h2] at hc
  rw [Nat.add_zero] at hc
  replace hc : w.cell? ⟨g, off, none⟩ = some (.int .u8 20) := hc
  have hA := Lib.hid (show (b.drop 1).length = 20 by rw [List.length_drop, h1])
  have hd := h.drop 1 (by omega)
  have hroom := h.room
  have sz : ((b.drop 1).map B8).toArray.size = 20 := by simp [h1]
  have on1 : rowOne ((b.drop 1).map B8).toArray := one_B8s _
  have ec : cutA (some ⟨g, off, none⟩) c 1 1 = some ⟨g, off + 1, none⟩ := by
    unfold cutA
    rw [if_neg (by omega)]
    simp [Addr.add_lit]
  rw [ec] at hd
  clear h hn h1 h2 hroom
  obtain ⟨C, hC⟩ : ∃ C, C = (zero20.map B8).toArray := ⟨_, rfl⟩
  have Z : C.size = 20 := by rw [hC]; exact zero20_size
  replace hC := Lib.hid hC
  generalize b.drop 1 = L at *
  go_enter Try.func8, Try.ntmps8
  go_upto_region 1 with fail
  refine wp_new fun W1 N1 => ?_
  have r2 := N1.new
  replace r2 : W1.heap[w.heap.size]? = some (.cells C 23 (0, 0)) := by rw [hC.out]; exact r2
  have F := N1.fr
  replace hc := F.cell (fun f => f) hc
  obtain ⟨g2, hg2⟩ : ∃ g, g = w.heap.size := ⟨_, rfl⟩
  rw [← hg2] at r2 ⊢
  replace hg2 := Lib.hid (Nat.le_of_eq hg2.symm)
  clear N1
  go_upto_region 2 with fail
  refine wp_new fun W2 N2 => ?_
  have r3 := N2.new
  replace r3 : W2.heap[W1.heap.size]? = some (.cells C 23 (0, 0)) := by rw [hC.out]; exact r3
  have ne := N2.ne r2
  replace r2 := N2.old r2
  replace hc := N2.fr.cell (fun f => f) hc
  have hg3 := Lib.hid F.size
  replace F := F.trans' N2.fr
  replace hd := Bs.fr7 hd F
  clear N2
  rw [cell_at] at hc
  generalize W1.heap.size = g3 at *
  go_upto_region 4 with fail
  have hcp := fun d => run_copy_addr (ty := 3) (d := d) (keep_drew r3) Z hA.out (Bs.fr7 hd (Fr.refl F0 _).drew)
  clear hd
  refine wp_region_noPanic ?_
  refine wp_region_held_drew (S := (fun w' => True)) (by kernel_rfl) ?_ (fun hHeld => ?_)
  · ((try dsimp only) <;> (trivial))
  refine rtake 0 ?_
  refine rtake 1 ?_
  refine rtake 2 ?_
  refine wpAnyH_ready (rs := [3]) (by kernel_rfl) (by simp) ?_
  refine AllReadyH.cons (o := ⟨_, _, _, _, _, _⟩) rfl (fun K hK => ?_) AllReadyH.nil
  go_simp
  refine hK.out _ _ ?_ (fun hHeld => ?_)
  · ((try dsimp only) <;> (trivial))
  clear hK K
  try (simp only [Act.put, List.setIfInBounds_toArray]; dsimp only [List.set_cons_zero, List.set_cons_succ])
  refine wpAnyH_done (by kernel_rfl) ?_ _
  refine NoPanic.normal ?_
  clear hcp hc
  replace r2 := keep_drew r2
  replace r3 := keep_drew r3
  replace F := F.drew
  generalize W2.drew = W3 at *
  go_wp2
  refine bodyPost_ret (results_cell_row_tmp rfl _ _ g2 _ _ _ _ rfl (by rw [heap_setRow_at, heap_setRow_ne _ _ _ _ ne, r2]; rfl) Try.underlying23 rfl (by rw [Try.szAddress, sz])) rfl ⟨rfl, ?_⟩
  exact (F.setRow (fun h => by have := hg3.out; omega) _).setRow (fun h => by have := hg2.out; omega) _
theorem lOpenerC : LOpenerC := by
  intro b a n c w h hn _
  cases hq : opO b
  · rw [show opA b = zero20 by simp [opA, hq]]
    exact lOpener_no b a n c w h hn hq
  · rw [show opA b = b.drop 1 by simp [opA, hq]]
    exact lOpener_yes b a n c w h hn hq
/-- What addressOf answers. -/
def aoO (b : List UInt8) : Bool := decide (b.length = 25 ∧ b.take 3 = [118, 169, 20] ∧ b.drop 23 = [136, 172])
def aoA (b : List UInt8) : List UInt8 := if aoO b then (b.drop 3).take 20 else zero20
theorem aoA_length (b : List UInt8) : (aoA b).length = 20 := by
  unfold aoA aoO
  split
  · rename_i h
    have := (of_decide_eq_true h).1
    simp; omega
  · rfl
theorem ao_eq {b : List UInt8} {n : Nat} (hn : n = b.length) (q1 : 2 ≤ n ∧ b.take 2 = [118, 169]) (q2 : 2 ≤ n - 2 ∧ (b.drop 2).drop (n - 2 - 2) = [136, 172]) : opO ((b.drop 2).take (n - 2 - 2)) = aoO b := by
  rw [opO, aoO, decide_eq_decide]
  rw [List.drop_drop] at q2
  have hx : ((b.drop 2).take (n - 2 - 2)).length = n - 4 := by rw [List.length_take, List.length_drop]; omega
  rw [hx]
  constructor
  · rintro ⟨h1, h2⟩
    obtain rfl : n = 25 := by omega
    have e : ((b.drop 2).take (25 - 2 - 2)).getD 0 0 = b.getD 2 0 := by simp [List.getD, List.getElem?_take, List.getElem?_drop]
    rw [e] at h2
    refine ⟨hn.symm, ?_, q2.2⟩
    rw [take_succ_getD b 2 (by omega), q1.2, h2]
    rfl
  · rintro ⟨h1, h2, h3⟩
    obtain rfl : n = 25 := by omega
    refine ⟨rfl, ?_⟩
    have e : ((b.drop 2).take (25 - 2 - 2)).getD 0 0 = (b.take 3).getD 2 0 := by simp [List.getD, List.getElem?_take, List.getElem?_drop]
    rw [e, h2]
    rfl
theorem ao_aeq {b : List UInt8} {n : Nat} (hn : n = b.length) (q1 : 2 ≤ n ∧ b.take 2 = [118, 169]) (q2 : 2 ≤ n - 2 ∧ (b.drop 2).drop (n - 2 - 2) = [136, 172]) : opA ((b.drop 2).take (n - 2 - 2)) = aoA b := by
  rw [opA, aoA, ao_eq hn q1 q2]
  split
  · rename_i h
    rw [aoO, decide_eq_true_iff] at h
    obtain rfl : n = 25 := by omega
    rw [List.drop_take, List.drop_drop]
  · rfl
theorem ao_no1 {b : List UInt8} {n : Nat} (hn : n = b.length) (q1 : ¬ (2 ≤ n ∧ b.take 2 = [118, 169])) : aoO b = false := by
  refine decide_eq_false fun h => q1 ⟨by omega, ?_⟩
  have e : b.take 2 = (b.take 3).take 2 := by rw [List.take_take]; rfl
  rw [e, h.2.1]
  rfl
theorem ao_no2 {b : List UInt8} {n : Nat} (hn : n = b.length) (q2 : ¬ (2 ≤ n - 2 ∧ (b.drop 2).drop (n - 2 - 2) = [136, 172])) : aoO b = false := by
  refine decide_eq_false fun h => q2 ⟨by omega, ?_⟩
  obtain rfl : n = 25 := by omega
  rw [List.drop_drop]
  exact h.2.2
set_option maxRecDepth 100000 in
set_option maxHeartbeats 8000000 in
theorem lAddrOf_any (b : List UInt8) (a : Option Addr) (n c : Nat) (w : World) (h : Bs w a c b) (hn : n = b.length) (hl : b.length ≤ 1000) :
    Calls Try.prog 16 #[.slice a n c] w fun e w' => e = .returned (.tuple #[.agg ((aoA b).map B8).toArray, .bool (aoO b)]) ∧ Fr F0 w w' := by
  have HB := Lib.hid h
  have H1 := Lib.hid (fun w hw g hg => bCutPrefix_any b [118, 169] a (some ⟨g, 0, none⟩) n 2 c 2 w hw hg hn rfl)
  replace hl := Lib.hid hl
  replace hn := Lib.hid hn
  have hz : ∀ w, (buildAd #[]).run Try.prog w = .ok (.agg (zero20.map B8).toArray) w := fun w => run_buildAd w #[] _ built_ad0
  obtain ⟨C, hC⟩ : ∃ C, C = (zero20.map B8).toArray := ⟨_, rfl⟩
  have Z : C.size = 20 := by rw [hC]; exact zero20_size
  have o0 : rowOne C := by rw [hC]; exact zero20_one
  rw [← hC] at hz
  replace hC := Lib.hid hC
  clear h
  go_enter Try.func16, Try.ntmps16
  go_upto_region 1 with fail
  refine wp_new fun W1 N1 => ?_
  have r2 := N1.new
  replace r2 : W1.heap[w.heap.size]? = some (.cells C 23 (0, 0)) := by rw [hC.out]; exact r2
  have F := N1.fr
  obtain ⟨g2, hg2⟩ : ∃ g, g = w.heap.size := ⟨_, rfl⟩
  rw [← hg2] at r2 ⊢
  replace hg2 := Lib.hid (Nat.le_of_eq hg2.symm)
  clear N1
  go_wp2_with fail
  refine calls_new fun W2 N2 => ?_
  replace r2 := N2.old r2
  replace F := F.trans' N2.fr
  have hb1 := Bs.of_r8 (L := [118, 169]) (n := 2) N2.new rfl (by omega)
  clear N2
  (with_reducible refine (H1.out _ (Bs.fr7 HB.out F) _ hb1).mono ?_); rintro e w3 ⟨rfl, hy, hx⟩
  clear hb1 H1
  by_cases q1 : 2 ≤ n ∧ b.take 2 = [118, 169]
  · replace hy := hy q1
    subst hy
    clear hx
    have HB2 := Lib.hid ((Bs.fr7 HB.out F).drop 2 (by have := hn.out; omega))
    have H2 := Lib.hid (fun w hw g hg => bCutSuffix_any (b.drop 2) [136, 172] (cutA a c 2 1) (some ⟨g, 0, none⟩) (n - 2) 2 (c - 2) 2 w hw hg (by rw [List.length_drop, hn.out]) rfl)
    go_wp2_with fail
    refine calls_new fun W4 N4 => ?_
    replace r2 := N4.old r2
    replace F := F.trans' N4.fr
    have hb1 := Bs.of_r8 (L := [136, 172]) (n := 2) N4.new rfl (by omega)
    have HB3 := Bs.fr7 HB2.out N4.fr
    clear N4
    (with_reducible refine (H2.out _ HB3 _ hb1).mono ?_); rintro e w3 ⟨rfl, hy, hx⟩
    clear hb1 H2
    by_cases q2 : 2 ≤ n - 2 ∧ (b.drop 2).drop (n - 2 - 2) = [136, 172]
    · replace hy := hy q2
      subst hy
      have H3 := Lib.hid (lOpenerC ((b.drop 2).take (n - 2 - 2)) (cutA a c 2 1) (n - 2 - 2) (c - 2) w3 (HB3.take _) (by rw [List.length_take, List.length_drop, ← hn.out]; omega) (by rw [List.length_take]; have := hn.out; have := hl.out; omega))
      have eO : opO ((b.drop 2).take (n - 2 - 2)) = aoO b := ao_eq hn.out q1 q2
      have eA : opA ((b.drop 2).take (n - 2 - 2)) = aoA b := ao_aeq hn.out q1 q2
      rw [eO, eA] at H3
      clear hx
      go_wp2_with fail
      (with_reducible refine H3.out.mono ?_); rintro e w5 ⟨rfl, f⟩
      replace r2 := keep_fr f r2
      replace F := F.trans' f
      have sA : ((aoA b).map B8).toArray.size = 20 := by simp [aoA_length]
      have oA : rowOne ((aoA b).map B8).toArray := one_B8s _
      clear f H3 eO eA
      go_wp2_with fail
      refine bodyPost_ret (results_cell_row_tmp rfl _ _ g2 _ _ _ _ rfl (by rw [heap_setRow_at, r2]; rfl) Try.underlying23 rfl (by rw [Try.szAddress, sA])) rfl ⟨rfl, ?_⟩
      exact F.setRow (fun h => by have := hg2.out; omega) _
    · replace hx := hx q2
      subst hx
      have eO : aoO b = false := ao_no2 hn.out q2
      clear hy
      go_wp2_with fail
      refine bodyPost_ret (results_cell_row_tmp rfl _ _ g2 _ _ _ _ rfl (by rw [heap_setRow_at, r2]; rfl) Try.underlying23 rfl (by rw [Try.szAddress, Z])) rfl ⟨?_, ?_⟩
      · rw [aoA, eO, hC.out]; rfl
      · exact F.setRow (fun h => by have := hg2.out; omega) _
  · replace hx := hx q1
    subst hx
    have eO : aoO b = false := ao_no1 hn.out q1
    clear hy
    go_wp2_with fail
    refine bodyPost_ret (results_cell_row_tmp rfl _ _ g2 _ _ _ _ rfl (by rw [heap_setRow_at, r2]; rfl) Try.underlying23 rfl (by rw [Try.szAddress, Z])) rfl ⟨?_, ?_⟩
    · rw [aoA, eO, hC.out]; rfl
    · exact F.setRow (fun h => by have := hg2.out; omega) _
/-- What tagOf answers. -/
def toO (b : List UInt8) : Bool := decide (3 ≤ b.length ∧ b.length ≤ 42 ∧ b.getD 0 0 = 106 ∧ (b.getD 1 0).toNat + 2 = b.length)
def toT (b : List UInt8) : List UInt8 := if toO b then b.drop 2 else []
set_option maxRecDepth 100000 in
set_option maxHeartbeats 8000000 in
theorem lTagOf_any (b : List UInt8) (a : Option Addr) (n c : Nat) (w : World) (h : Bs w a c b) (hn : n = b.length) (hl : b.length ≤ 1000) :
    Calls Try.prog 17 #[.slice a n c] w fun e w' => ∃ a' n' c', e = .returned (.tuple #[.slice a' n' c', .bool (toO b)]) ∧ n' = (toT b).length ∧ Bs w' a' c' (toT b) ∧ Fr F0 w w' ∧ ∀ k, ablk a' = some k → w.heap.size ≤ k := by
  have hno : toO b = false → ∃ a' n' c', Ending.returned (.tuple #[.slice none 0 0, .bool false]) = Ending.returned (.tuple #[.slice a' n' c', .bool (toO b)]) ∧ n' = (toT b).length ∧ Bs w a' c' (toT b) ∧ Fr F0 w w ∧ ∀ k, ablk a' = some k → w.heap.size ≤ k := fun e => by
    rw [toT, e]
    exact ⟨none, 0, 0, rfl, rfl, Bs.nothing w, Fr.refl _ _, fun k h => by cases h⟩
  by_cases h1 : n < 2
  · have hq : toO b = false := decide_eq_false fun h => by omega
    have l1 : (n : Int) < 2 := by omega
    replace hno := Lib.hid (hno hq)
    clear h hn hl h1 hq
    go_enter Try.func17, Try.ntmps17
    go_wp2
    go_ret2
    exact hno.out
  · have l1 : ¬ (n : Int) < 2 := by omega
    obtain ⟨g, off, rfl, hc⟩ := h.get8 0 (by omega)
    obtain ⟨g', off', e', hc1⟩ := h.get8 1 (by omega)
    obtain ⟨rfl, rfl⟩ : g = g' ∧ off = off' := by simpa using e'
    clear e'
    rw [Nat.add_zero] at hc
    by_cases h2 : b.getD 0 0 = 106
    · have l2 : ((106 : Int) != 106) = false := rfl
      rw [h2] at hc
      replace hc : w.cell? ⟨g, off, none⟩ = some (.int .u8 106) := hc
      have hroom := h.room
      have hmost := h.most
      unfold maxLen at hmost
      have hx := (b.getD 1 0).toNat_lt
      obtain ⟨x, hxe⟩ : ∃ x, x = (b.getD 1 0).toNat := ⟨_, rfl⟩
      rw [← hxe] at hc1 hx
      have hd := h.drop 2 (by omega)
      have ed : (b.drop 2).length = n - 2 := by rw [List.length_drop, hn]
      have HC := Lib.hid (fun a c hb => Clone_any a (n - 2) c (b.drop 2) w hb ed.symm (by omega))
      have HI := Lib.hid (fun w => lIsTag_any ((n - 2 : Nat) : Int) w)
      have l6 : (x : Int) % 4294967296 = (x : Int) := by omega
      rw [cell_at] at hc hc1
      have lw : IntKind.i64.wrap (x : Int) = (x : Int) := by rw [IntKind.wrap_i64]; omega
      by_cases h3 : x = n - 2
      · have l4 : ((x : Int) != ((n - 2 : Nat) : Int)) = false := by rw [h3]; exact bne_self_eq_false _
        by_cases h4 : 1 ≤ n - 2 ∧ n - 2 ≤ 40
        · have hq : toO b = true := decide_eq_true ⟨by omega, by omega, h2, by omega⟩
          have eT : toT b = b.drop 2 := by rw [toT, hq]; rfl
          have hz : (decide (1 ≤ ((n - 2 : Nat) : Int)) && decide (((n - 2 : Nat) : Int) ≤ 40)) = true := by rw [decide_eq_true (by omega), decide_eq_true (by omega)]; rfl
          rw [hz] at HI
          rw [eT, hq]
          unfold NewBytes at HC
          rw [ed] at HC ⊢
          replace hd := Lib.hid hd
          have hc2 : ¬ c = 2 := by omega
          have ec : cutA (some ⟨g, off, none⟩) c 2 1 = some ⟨g, off + 2, none⟩ := by
            unfold cutA
            rw [if_neg hc2]
            simp [Addr.add_lit]
          rw [ec] at hd
          subst h3
          clear h hn hl h1 hq h2 h4 hz hno hroom hmost hxe hx ed ec
          go_enter Try.func17, Try.ntmps17
          go_wp2_with fail
          (with_reducible refine (HI.out _).mono ?_); rintro e w3 ⟨rfl, rfl⟩
          go_wp2_with fail
          (with_reducible refine (HC.out _ _ hd.out).mono ?_); rintro e w4 ⟨a4, c4, rfl, hb4, f4, n4⟩
          replace n4 := Lib.hid n4; clear HC HI hc hc1
          replace hb4 := Lib.hid hb4
          go_wp2_with fail
          go_ret2
          exact ⟨a4, _, c4, rfl, rfl, hb4.out, f4, fun k hk => (n4.out k hk).1⟩
        · have hq : toO b = false := decide_eq_false fun h => by omega
          have hz : (decide (1 ≤ ((n - 2 : Nat) : Int)) && decide (((n - 2 : Nat) : Int) ≤ 40)) = false := by
            by_cases h5 : 1 ≤ n - 2
            · rw [decide_eq_false (show ¬ ((n - 2 : Nat) : Int) ≤ 40 by omega), Bool.and_false]
            · rw [decide_eq_false (show ¬ 1 ≤ ((n - 2 : Nat) : Int) by omega), Bool.false_and]
          rw [hz] at HI
          subst h3
          replace hno := Lib.hid (hno hq)
          clear h hn hl h1 hq h2 h4 hz hroom hmost hxe hx ed hd HC
          go_enter Try.func17, Try.ntmps17
          go_wp2_with fail
          all_goals
            (with_reducible refine (HI.out _).mono ?_); rintro e w3 ⟨rfl, rfl⟩
            go_wp2_with fail
            go_ret2
            exact hno.out
      · have l4 : ((x : Int) != ((n - 2 : Nat) : Int)) = true := bne_iff_ne.2 (by omega)
        have l5 : ¬ (x : Int) = ((n - 2 : Nat) : Int) := by omega
        have hq : toO b = false := decide_eq_false fun h => by omega
        replace hno := Lib.hid (hno hq)
        clear h hn hl h1 hq h2 h3 hroom hmost hxe hx ed hd HC HI
        go_enter Try.func17, Try.ntmps17
        go_wp2_with fail
        all_goals
          go_ret2
          exact hno.out
    · have l2 : (((b.getD 0 0).toNat : Int) != 106) = true := bne_iff_ne.2 (fun e => h2 (UInt8.toNat_inj.1 (by have : (b.getD 0 0).toNat = 106 := (by omega); rw [this]; rfl)))
      have hq : toO b = false := decide_eq_false fun h => h2 h.2.2.1
      replace hno := Lib.hid (hno hq)
      rw [cell_at] at hc
      generalize ((b.getD 0 0).toNat : Int) = x at *
      clear h hn hl h1 hq h2 hc1
      go_enter Try.func17, Try.ntmps17
      go_wp2_with fail
      all_goals
        go_ret2
        exact hno.out
theorem lkP_ao (b : List UInt8) : lkP b = if aoO b = true then (1, aoA b, []) else if toO b = true then (2, zero20, toT b) else (0, zero20, []) := by
  unfold lkP
  by_cases h1 : aoO b = true
  · rw [if_pos h1, aoA, if_pos h1, if_pos (of_decide_eq_true h1)]
  · rw [if_neg h1, if_neg (fun h => h1 (decide_eq_true h))]
    by_cases h2 : toO b = true
    · rw [if_pos h2, toT, if_pos h2, if_pos (of_decide_eq_true h2)]
    · rw [if_neg h2, if_neg (fun h => h2 (decide_eq_true h))]
set_option maxRecDepth 100000 in
set_option maxHeartbeats 8000000 in
theorem lParseC : LParseC := by
  intro b a n c w h hn hl
  have HB := Lib.hid h
  have HA := Lib.hid (fun w hw => lAddrOf_any b a n c w hw hn hl)
  have HT := Lib.hid (fun w hw => lTagOf_any b a n c w hw hn hl)
  obtain ⟨C0, hC0⟩ : ∃ C, C = lkC 0 zero20 (.slice none 0 0) := ⟨_, rfl⟩
  obtain ⟨A0, hA0⟩ : ∃ C, C = (zero20.map B8).toArray := ⟨_, rfl⟩
  have Z0 : C0.size = 22 := by rw [hC0]; rfl
  have ZA : A0.size = 20 := by rw [hA0]; exact zero20_size
  replace hC0 := Lib.hid hC0
  replace hA0 := Lib.hid hA0
  clear h hn hl
  rw [lkP_ao]
  by_cases q1 : aoO b = true
  · rw [if_pos q1]
    rw [q1] at HA
    have hbl := fun w => run_buildLk w #[(0, .int .i64 1), (1, .agg ((aoA b).map B8).toArray)] _ (built_lk1 (aoA b) (aoA_length b))
    obtain ⟨C, hC⟩ : ∃ C, C = lkC 1 (aoA b) (.slice none 0 0) := ⟨_, rfl⟩
    have sK : C.size = 22 := by rw [hC]; exact (LkC.of (k := 1) (aoA_length b) (.slice none 0 0)).size
    have K1 : rowOne C := by rw [hC]; exact lkC_one
    rw [← hC] at hbl
    replace hC := Lib.hid hC
    have sA : ((aoA b).map B8).toArray.size = 20 := by simp [aoA_length]
    have oA : rowOne ((aoA b).map B8).toArray := one_B8s _
    dsimp only
    generalize ((aoA b).map B8).toArray = A at *
    clear HT
    go_enter Try.func10, Try.ntmps10
    go_upto_region 1 with fail
    refine wp_new fun W1 N1 => ?_
    have r2 := N1.new
    replace r2 : W1.heap[w.heap.size]? = some (.cells C0 30 (0, 0)) := by rw [hC0.out]; exact r2
    have F := N1.fr
    obtain ⟨g2, hg2⟩ : ∃ g, g = w.heap.size := ⟨_, rfl⟩
    rw [← hg2] at r2 ⊢
    replace hg2 := Lib.hid (Nat.le_of_eq hg2.symm)
    clear N1
    go_wp2_with fail
    (with_reducible refine (HA.out _ (Bs.fr7 HB.out F)).mono ?_); rintro e w3 ⟨rfl, f⟩
    replace r2 := keep_fr f r2
    replace F := F.trans' f
    clear f HA
    go_upto_region 2 with fail
    refine wp_put fun W4 N4 => ?_
    have r3 := N4.new
    replace r2 := N4.old r2
    replace F := F.trans' N4.fr
    clear N4
    generalize w3.heap.size = g3 at *
    go_wp2
    refine bodyPost_ret (results_cell_row rfl _ _ g2 _ _ _ _ rfl (by rw [heap_setRow_at, r2]; rfl) Try.underlying30 rfl (by rw [Try.szLock, sK])) rfl ⟨none, 0, 0, by rw [hC.out], rfl, Bs.nothing _, ?_⟩
    exact F.setRow (fun h => by have := hg2.out; omega) _
  · rw [if_neg q1]
    rw [show aoO b = false by simpa using q1] at HA
    have eA : aoA b = zero20 := by rw [aoA, if_neg q1]
    rw [eA] at HA
    rw [← hA0.out] at HA
    have oA : rowOne A0 := by rw [hA0.out]; exact one_B8s _
    clear q1 eA
    by_cases q2 : toO b = true
    · rw [if_pos q2]
      rw [q2] at HT
      have hbl := fun w a n c => run_buildLk w #[(0, .int .i64 2), (2, .slice a n c)] _ (built_lk2 a n c)
      have sK : ∀ a n c, (lkC 2 zero20 (.slice a n c)).size = 22 := fun a n c => (LkC.of (k := 2) (A := zero20) rfl (.slice a n c)).size
      have K1 : ∀ a n c, rowOne (lkC 2 zero20 (.slice a n c)) := fun a n c => lkC_one
      dsimp only
      go_enter Try.func10, Try.ntmps10
      go_upto_region 1 with fail
      refine wp_new fun W1 N1 => ?_
      have r2 := N1.new
      replace r2 : W1.heap[w.heap.size]? = some (.cells C0 30 (0, 0)) := by rw [hC0.out]; exact r2
      have F := N1.fr
      obtain ⟨g2, hg2⟩ : ∃ g, g = w.heap.size := ⟨_, rfl⟩
      rw [← hg2] at r2 ⊢
      replace hg2 := Lib.hid (Nat.le_of_eq hg2.symm)
      clear N1
      go_wp2_with fail
      (with_reducible refine (HA.out _ (Bs.fr7 HB.out F)).mono ?_); rintro e w3 ⟨rfl, f⟩
      replace r2 := keep_fr f r2
      replace F := F.trans' f
      clear f HA
      go_upto_region 2 with fail
      refine wp_put fun W4 N4 => ?_
      replace r2 := N4.old r2
      replace F := F.trans' N4.fr
      clear N4
      have h2 := Lib.hid (Array.getElem?_eq_some_iff.1 r2).1
      generalize w3.heap.size = g3 at *
      go_wp2_with fail
      (with_reducible refine (HT.out _ (Bs.fr7 HB.out F)).mono ?_); rintro e w5 ⟨a5, n5, c5, rfl, hn5, hb5, f, k5⟩
      replace r2 := keep_fr f r2
      replace F := F.trans' f
      replace k5 := Lib.hid (show ∀ k, ablk a5 = some k → k ≠ g2 from fun k hk e => by have h1 := k5 k hk; have h3 := h2.out; omega)
      replace hn5 := Lib.hid hn5
      replace hb5 := Lib.hid hb5
      have sK5 := sK a5 n5 c5
      have K5 := K1 a5 n5 c5
      have hbl5 := fun w => hbl w a5 n5 c5
      obtain ⟨C, hC⟩ : ∃ C, C = lkC 2 zero20 (.slice a5 n5 c5) := ⟨_, rfl⟩
      rw [← hC] at sK5 K5 hbl5
      replace hC := Lib.hid hC
      clear f HT hbl sK K1
      go_wp2
      have f2 : Fr (fun k => k = g2) w5 (w5.setRow g2 C) := Fr.setRow (Fr.refl (fun k => k = g2) w5) (fun _ => rfl) C
      refine bodyPost_ret (results_cell_row rfl _ _ g2 _ _ _ _ rfl (by rw [heap_setRow_at, r2]; rfl) Try.underlying30 rfl (by rw [Try.szLock, sK5])) rfl ⟨a5, n5, c5, by rw [hC.out], hn5.out, ?_, ?_⟩
      · exact Sl.fr hb5.out f2 fun k hk e => k5.out k hk e
      · exact F.setRow (fun h => by have := hg2.out; omega) _
    · rw [if_neg q2]
      rw [show toO b = false by simpa using q2] at HT
      have eT : toT b = [] := by rw [toT, if_neg q2]
      rw [eT] at HT
      have hbl := fun w => run_buildLk w #[(0, .int .i64 0)] _ (show Try.prog.built 30 [(0, .int .i64 0)] = some (lkC 0 zero20 (.slice none 0 0)) by kernel_rfl)
      have K1 : rowOne C0 := by rw [hC0.out]; exact lkC_one
      rw [← hC0.out] at hbl
      dsimp only
      go_enter Try.func10, Try.ntmps10
      go_upto_region 1 with fail
      refine wp_new fun W1 N1 => ?_
      have r2 := N1.new
      replace r2 : W1.heap[w.heap.size]? = some (.cells C0 30 (0, 0)) := by rw [hC0.out]; exact r2
      have F := N1.fr
      obtain ⟨g2, hg2⟩ : ∃ g, g = w.heap.size := ⟨_, rfl⟩
      rw [← hg2] at r2 ⊢
      replace hg2 := Lib.hid (Nat.le_of_eq hg2.symm)
      clear N1
      go_wp2_with fail
      (with_reducible refine (HA.out _ (Bs.fr7 HB.out F)).mono ?_); rintro e w3 ⟨rfl, f⟩
      replace r2 := keep_fr f r2
      replace F := F.trans' f
      clear f HA
      go_upto_region 2 with fail
      refine wp_put fun W4 N4 => ?_
      replace r2 := N4.old r2
      replace F := F.trans' N4.fr
      clear N4
      have h2 := Lib.hid (Array.getElem?_eq_some_iff.1 r2).1
      generalize w3.heap.size = g3 at *
      go_wp2_with fail
      (with_reducible refine (HT.out _ (Bs.fr7 HB.out F)).mono ?_); rintro e w5 ⟨a5, n5, c5, rfl, hn5, hb5, f, k5⟩
      replace r2 := keep_fr f r2
      replace F := F.trans' f
      clear f HT hn5 hb5 k5 h2
      go_wp2
      refine bodyPost_ret (results_cell_row rfl _ _ g2 _ _ _ _ rfl (by rw [heap_setRow_at, r2]; rfl) Try.underlying30 rfl (by rw [Try.szLock, Z0])) rfl ⟨none, 0, 0, by rw [hC0.out], rfl, Bs.nothing _, ?_⟩
      exact F.setRow (fun h => by have := hg2.out; omega) _
end Go.Proofs.Ytigjoepoaahidaa
