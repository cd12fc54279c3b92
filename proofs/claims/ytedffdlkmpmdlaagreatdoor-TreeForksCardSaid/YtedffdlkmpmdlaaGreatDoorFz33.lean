import Derived.Test.YtedffdlkmpmdlaaGreatDoorFz1
import Derived.Test.YtedffdlkmpmdlaaGreatDoorFz32
import Derived.Test.YtedffdlkmpmdlaaGreatDoorFz12
import Derived.Test.YtedffdlkmpmdlaaGreatDoorFz8
import Derived.Test.YtedffdlkmpmdlaaGreatDoorFz16
set_option maxRecDepth 100000
set_option maxHeartbeats 64000000
namespace Go.Proofs.YtedffdlkmpmdlaaGreatDoor
set_option maxRecDepth 100000
set_option linter.unusedVariables false
set_option linter.unusedSimpArgs false
open Go.RowKit
theorem kTargetOf_any (HD : DecC) (h : Hd) (o : h.Ok) (hb : btP h.bits) (w : World) :
  Calls Tryz.prog 33 #[.agg h.cells] w fun e w' => e = .returned (.agg (rowN .u64 64 4 (btT h.bits))) ∧ Fr F0 w w' := by
 have H1 := Lib.hid ((HD h.bits o.bits).1 hb)
 obtain ⟨sC,_,_,c66,_,_,_,oC⟩ := Hd.of o
 generalize h.cells = C at *
 generalize btT h.bits = T at *
 generalize h.bits = b at *
 have s66 : 66 < C.size := by omega
 have d66 := cell_is c66 s66
 clear o hb HD
 go_enter Tryz.func33,Tryz.ntmps33
 go_wp2_with fail
 refine calls_new fun W1 N1 => ?_
 have r2 := N1.new
 have F := ((Fr.refl F0 w).alloc (.cells C 27)).trans' N1.fr
 rw [World.size_alloc] at r2
 clear N1
 have hg : ¬ w.heap.size + 1 < w.heap.size := by omega
 generalize w.heap.size + 1 = g2 at *
 replace hg := Lib.hid hg
 (with_reducible refine (H1.out _).mono ?_); rintro e w2 ⟨rfl,f⟩
 replace r2 := keep_fr f r2
 replace F := F.trans' f
 clear f
 go_upto_region 2 with fail
 refine wp_put fun W4 N4 => ?_
 have r3 := N4.new
 replace r2 := N4.old r2
 replace F := F.trans' N4.fr
 clear N4
 generalize w2.heap.size = g3 at *
 have F9 := Lib.hid (F.setRow (fun h => absurd h hg.out) (rowN .u64 64 4 T))
 have q2 := Lib.hid (setRow_heap _ _ _ (rowN .u64 64 4 T) _ _ r2)
 go_wp2
 refine bodyPost_ret (results_cell_row rfl _ _ g2 _ _ _ _ rfl q2.out Tryz.underlying73 rfl (by kernel_rfl)) rfl ⟨rfl,F9.out⟩
def inM (ch : List (List UInt8)) (hs : List UInt8) (ht : Nat) : Bool := decide (ht < ch.length ∧ ch.getD ht [] = hs)
theorem kIsIn_any {w : World} {p : Nat} {R : Array Value} {bm : Nat} {H : List Hd} {L : List Bk} {ps : List Nat} {v : Value} {ch : List (List UInt8)} (hR : R.size = 72) (T : TM w p R bm H L ps v ch)
  (q : Nat) (h : Hd) (oh : h.Ok) (hs : List UInt8) (l32 : hs.length = 32) (up : Value) (ht wk : Nat) (tip : Bool) (r1 : w.heap[q]? = some (.cells (blkC h hs up ht wk tip) 77 (0,0))) :
  Calls Tryz.prog 86 #[.pointer (some ⟨p,0,none⟩),.pointer (some ⟨q,0,none⟩)] w fun e w' => e = .returned (.bool (inM ch hs ht)) ∧ Fr F0 w w' := by
 have HAT := Lib.hid (fun W (f : Fr F0 w W) => kAt_any hR (T.fr f) (ht : Int))
 have sC := blkC_size (up := up) (ht := ht) (wk := wk) (tip := tip) oh l32
 have c101 := blkC_ht (up := up) (ht := ht) (wk := wk) (tip := tip) oh l32
 have cm : ∀ j,j < 32 → (blkC h hs up ht wk tip)[68 + j]? = (hs.map B8)[j]? := fun j hj => blkC_mid oh l32 j hj
 generalize blkC h hs up ht wk tip = C at *
 have s101 : 101 < C.size := by omega
 have d101 := cell_is c101 s101
 have HLD := Lib.hid (fun W (h : W.heap[q]? = some (.cells C 77 (0,0))) => show (loadRowAt 25 (.pointer (some ⟨q,68,none⟩))).run Tryz.prog W = .ok (.agg (hc hs)) W from
  load_midH l32 fun j u hj => by
   have hl : j < 32 := by have := (List.getElem?_eq_some_iff.1 hj).1; rw [List.length_map,l32] at this; exact this
   rw [cell_of_row W q (68 + j) _ _ _ h,cm j hl]
   exact hj)
 have h32 : (atM ch (ht : Int)).length = 32 := by
  unfold atM
  split
  ·rename_i hh
   exact T.own.ok.get (by rw [Int.toNat_natCast]; omega)
  ·exact z32_length
 have hE := fun w => run_equalIn_hashJ w (atM ch (ht : Int)) hs h32 l32
 have hIN : inM ch hs ht = (decide (0 ≤ (ht : Int) ∧ (ht : Int) < (ch.length : Int)) && decide (atM ch (ht : Int) = hs)) := by
  unfold inM atM
  by_cases h1 : ht < ch.length
  ·rw [if_pos (by omega),Int.toNat_natCast,decide_eq_true (by omega : 0 ≤ (ht : Int) ∧ (ht : Int) < (ch.length : Int)),Bool.true_and]
   exact decide_eq_decide.2 ⟨fun h => h.2,fun h => ⟨h1,h⟩⟩
  ·rw [decide_eq_false (by omega : ¬ (0 ≤ (ht : Int) ∧ (ht : Int) < (ch.length : Int))),Bool.false_and]
   exact decide_eq_false fun h => h1 h.1
 rw [hIN]
 have sX := hc_size h32
 have oX := hc_one (atM ch (ht : Int))
 generalize hc (atM ch (ht : Int)) = X at *
 generalize decide (atM ch (ht : Int) = hs) = e1 at *
 generalize hc hs = Y at *
 generalize decide (0 ≤ (ht : Int) ∧ (ht : Int) < (ch.length : Int)) = e0 at *
 clear T hR cm h32 hIN oh l32
 go_enter Tryz.func86,Tryz.ntmps86
 go_wp2_with fail
 (with_reducible refine (HAT.out _ (Fr.refl _ _)).mono ?_); rintro e w2 ⟨rfl,F⟩
 replace r1 := keep_fr F r1
 go_upto_region 2 with fail
 refine wp_put fun W4 N4 => ?_
 have r3 := N4.new
 replace r1 := N4.old r1
 replace F := F.trans' N4.fr
 clear N4
 generalize w2.heap.size = g3 at *
 have ld := HLD.out _ r1
 cases e0
 ·skip
  refine rbegin (S := (fun w' => (w'.heap[q]? = some (.cells C 77 (0,0)) ∧ w'.heap[g3]? = some (.cells X 25 (0,0))) ∧ Fr F0 w w')) ?_ fun hHeld => ?_
  ·((try dsimp only) <;> (exact ⟨⟨r1,r3⟩,F.drew⟩))
  refine rtake 0 ?_
  refine rtake 1 ?_
  refine rleave 2 ?_
  refine rleave 3 ?_
  refine rleave 4 ?_
  refine rleave 5 ?_
  refine rleave 6 ?_
  refine rleave 7 ?_
  refine rtake 8 ?_
  refine rtake 9 ?_
  refine rdone ?_
  all_goals
   have f := hHeld.2
   go_wp2_with fail
   go_ret
   exact ⟨rfl,f⟩
 ·skip
  refine rbegin (S := (fun w' => (w'.heap[q]? = some (.cells C 77 (0,0)) ∧ w'.heap[g3]? = some (.cells X 25 (0,0)) ∧ (loadRowAt 25 (.pointer (some ⟨q,68,none⟩))).run Tryz.prog w' = .ok (.agg Y) w') ∧ Fr F0 w w')) ?_ fun hHeld => ?_
  ·((try dsimp only) <;> (exact ⟨⟨r1,r3,HLD.out _ r1⟩,F.drew⟩))
  refine rtake 0 ?_
  refine rtake 1 ?_
  refine rtake 2 ?_
  refine rtake 3 ?_
  refine rtake 4 ?_
  refine rtake 5 ?_
  refine rtake 6 ?_
  refine rtake 7 ?_
  refine rtake 8 ?_
  refine rtake 9 ?_
  refine rdone ?_
  all_goals
   have f := hHeld.2
   go_wp2_with fail
   go_ret
   exact ⟨rfl,f⟩
theorem kHasRoom_any {w : World} {p : Nat} {R : Array Value} {bm : Nat} {H : List Hd} {L : List Bk} {ps : List Nat} {v : Value} {ch : List (List UInt8)} (hR : R.size = 72) (I : TI H L ps) (T : TM w p R bm H L ps v ch) (i : Nat) (hi : i < L.length) :
  Calls Tryz.prog 40 #[.pointer (some ⟨p,0,none⟩),.pointer (some ⟨ps.getD i 0,0,none⟩)] w fun e w' => e = .returned (.bool (decide (L.length < 4096) && (isTip L i || decide (tipsM L < 16)))) ∧ Fr F0 w w' := by
 have r1 := T.top
 have hm := T.map.len
 have sC := treC_size (bm := bm) (v := v) (tips := tipsM L) hR
 have c72 := treC_72 (bm := bm) (v := v) (tips := tipsM L) hR
 have c74 := treC_74 (bm := bm) (v := v) (tips := tipsM L) hR
 generalize treC R bm v (tipsM L) = C at *
 have r2 := T.blk i hi
 have sB := I.blk_size hi
 have c106 : (blkOf H L ps i)[106]? = some (.bool (isTip L i)) := blkC_tip (I.hd i hi).1 (I.at32 hi)
 generalize blkOf H L ps i = B at *
 generalize ps.getD i 0 = q at *
 generalize isTip L i = tp at *
 generalize tipsM L = tn at *
 generalize L.length = n at *
 have s72 : 72 < C.size := by omega
 have d72 := cell_is c72 s72
 have s74 : 74 < C.size := by omega
 have d74 := cell_is c74 s74
 have s106 : 106 < B.size := by omega
 have d106 := cell_is c106 s106
 have F := Fr.refl F0 w
 clear T I hR hi
 obtain ⟨e1,he1⟩ : ∃ e1,decide (n < 4096) = e1 := ⟨_,rfl⟩
 obtain ⟨e2,he2⟩ : ∃ e2,decide (tn < 16) = e2 := ⟨_,rfl⟩
 rw [he1,he2]
 have l1 : decide ((n : Int) < 4096) = e1 := by rw [← he1]; exact decide_eq_decide.2 (by omega)
 have l2 : decide ((tn : Int) < 16) = e2 := by rw [← he2]; exact decide_eq_decide.2 (by omega)
 go_enter Tryz.func40,Tryz.ntmps40
 cases e1
 ·have l3 : ¬ (n : Int) < 4096 := of_decide_eq_false l1
  go_wp2_with fail
  go_ret
  exact ⟨rfl,F⟩
 ·have l3 : (n : Int) < 4096 := of_decide_eq_true l1
  cases tp
  ·cases e2
   ·have l4 : ¬ (tn : Int) < 16 := of_decide_eq_false l2
    go_wp2_with fail
    go_ret
    exact ⟨rfl,F⟩
   ·have l4 : (tn : Int) < 16 := of_decide_eq_true l2
    go_wp2_with fail
    go_ret
    exact ⟨rfl,F⟩
  ·go_wp2_with fail
   go_ret
   exact ⟨rfl,F⟩
end Go.Proofs.YtedffdlkmpmdlaaGreatDoor
