import Derived.Test.YtedffdlkmpmdlaaGreatDoorFz1
import Derived.Test.YtedffdlkmpmdlaaGreatDoorFz37
import Derived.Test.YtedffdlkmpmdlaaGreatDoorFz19
import Derived.Test.YtedffdlkmpmdlaaGreatDoorFz20
set_option maxRecDepth 100000
set_option maxHeartbeats 64000000
namespace Go.Proofs.YtedffdlkmpmdlaaGreatDoor
set_option maxRecDepth 100000
set_option linter.unusedVariables false
set_option linter.unusedSimpArgs false
open Go.RowKit
structure RI (R : Array Value) (e span limit : Nat) : Prop where
 of : ∃ confirm : Int,RuOf R (e : Int) span limit confirm
 e0 : 2 ≤ e
 e1 : e ≤ 100000
 s0 : 0 < span
 lim : btP limit
theorem tree_rules {R : Array Value} {bm : Nat} {v : Value} {tips : Nat} (hR : R.size = 72) (W : World) (p : Nat) (h : W.heap[p]? = some (.cells (treC R bm v tips) 80 (0,0))) : (loadRowAt 29 (.pointer (some ⟨p,0,none⟩))).run Tryz.prog W = .ok (.agg R) W := by
 have := run_loadAt_mid (P := Tryz.prog) W p 0 29 R.toList _ (fun j u hj => by
  have hl : j < 72 := by have := (List.getElem?_eq_some_iff.1 hj).1; rw [Array.length_toList] at this; omega
  rw [cell_of_row W p (0 + j) _ _ _ h,Nat.zero_add,treC_lo hR j hl]
  simpa using hj) Tryz.underlying29 rfl (by rw [Array.length_toList,hR]; kernel_rfl)
 rw [Array.toArray_toList] at this
 exact this
theorem kBitsB_any (HD : DecC) (HE : EncC) (HS : ScaleC) {w : World} {p : Nat} {R : Array Value} {bm : Nat} {H : List Hd} {L : List Bk} {ps : List Nat} {v : Value} {ch : List (List UInt8)} {e span limit : Nat} (ri : RI R e span limit) (I : TI H L ps) (T : TM w p R bm H L ps v ch) (i : Nat) (hi : i < L.length) (hbits : btP (bkT L i).bits) :
  Calls Tryz.prog 37 #[.pointer (some ⟨p,0,none⟩),.pointer (some ⟨ps.getD i 0,0,none⟩)] w fun ed w' => ed = .returned (.int .u32 ((bitsM L e span limit i : Nat) : Int)) ∧ Fr F0 w w' := by
 obtain ⟨confirm,hru⟩ := ri.of
 have hR := hru.size
 have hht := I.height hi
 have HDue := Lib.hid (jDue_any hru (by have := ri.e0; omega) ri.e1 (heightM L i + 1) (by omega) (by omega))
 have HNx := Lib.hid (fun (k : Int) w => jNext_any HD HE HS hru (bkT L i).bits (I.wf.at hi).bits k w)
 have HLR := Lib.hid (fun W (h : W.heap[p]? = some (.cells (treC R bm v (tipsM L)) 80 (0,0))) => tree_rules hR W p h)
 have r1 := T.top
 have sC := treC_size (bm := bm) (v := v) (tips := tipsM L) hR
 have c0 : (treC R bm v (tipsM L))[0]? = some (.int .i64 (e : Int)) := (treC_lo hR 0 (by omega)).trans hru.c0
 generalize treC R bm v (tipsM L) = C at *
 have r2 := T.blk i hi
 have oi := I.hd i hi
 have sB := I.blk_size hi
 have c65 : (blkOf H L ps i)[65]? = some (.int .u32 ((bkT L i).time : Int)) := by rw [oi.2.2.1]; exact blkC_time oi.1
 have c66 : (blkOf H L ps i)[66]? = some (.int .u32 ((bkT L i).bits : Int)) := by rw [oi.2.2.2]; exact blkC_bits oi.1
 have c101 : (blkOf H L ps i)[101]? = some (.int .i64 (heightM L i : Int)) := blkC_ht oi.1 (I.at32 hi)
 generalize blkOf H L ps i = B at *
 have s0 : 0 < C.size := by omega
 have d0 := cell_is c0 s0
 have s65 : 65 < B.size := by omega
 have d65 := cell_is c65 s65
 have s66 : 66 < B.size := by omega
 have d66 := cell_is c66 s66
 have s101 : 101 < B.size := by omega
 have d101 := cell_is c101 s101
 have ll := line_len I.wf hi
 have HB := Lib.hid (show (((heightM L i + 1) % e = 0 → bitsM L e span limit i = enB (scN (btT (bkT L i).bits) (tkN span (((bkT L i).time : Int) - ((bkT L (fromM L e i)).time : Int))) span (btT limit)))) ∧ (¬ (heightM L i + 1) % e = 0 → bitsM L e span limit i = (bkT L i).bits) from by
  unfold bitsM
  rw [ll]
  exact ⟨fun h => if_pos h,fun h => if_neg h⟩)
 have hti : (bkT L i).time < 4294967296 := (I.wf.at hi).time
 generalize heightM L i = ht at *
 obtain ⟨V,hV⟩ : ∃ V,bitsM L e span limit i = V := ⟨_,rfl⟩
 rw [hV] at HB ⊢
 have HT := Lib.hid T
 have HI := Lib.hid (And.intro I (And.intro hi (And.intro ll (And.intro hbits ri))))
 have HTI := Lib.hid hti
 obtain ⟨q,hq⟩ : ∃ q,ps.getD i 0 = q := ⟨_,rfl⟩
 have HQ := Lib.hid hq
 rw [hq] at r2 ⊢
 obtain ⟨xi,hxi⟩ : ∃ xi,(bkT L i).bits = xi := ⟨_,rfl⟩
 rw [hxi] at c66 d66 HNx HB
 have HXI := Lib.hid hxi
 obtain ⟨ti,hti2⟩ : ∃ ti,(bkT L i).time = ti := ⟨_,rfl⟩
 rw [hti2] at c65 d65 HB HTI
 obtain ⟨h1,hh1⟩ : ∃ h1,ht + 1 = h1 := ⟨_,rfl⟩
 rw [hh1] at HDue HB
 have m1 : IntKind.i64.wrap ((ht : Int) + 1) = (h1 : Int) := by rw [IntWalk.i64_in _ (by omega)]; omega
 obtain ⟨due,hdue⟩ : ∃ due,decide (h1 % e = 0) = due := ⟨_,rfl⟩
 rw [hdue] at HDue
 have HDD := Lib.hid hdue
 have HHT := Lib.hid (And.intro hht hh1)
 have F := Fr.refl F0 w
 clear T I hi hq hxi hti2 hV hru hbits ri hR oi ll hti hdue hht hh1
 go_enter Tryz.func37,Tryz.ntmps37
 go_upto_region 2 with fail
 refine rbegin (S := (fun w' => (w'.heap[p]? = some (.cells C 80 (0,0)) ∧ w'.heap[q]? = some (.cells B 77 (0,0)) ∧ (loadRowAt 29 (.pointer (some ⟨p,0,none⟩))).run Tryz.prog w' = .ok (.agg R) w') ∧ Fr F0 w w')) ?_ fun hHeld => ?_
 ·((try dsimp only) <;> (exact ⟨⟨r1,r2,HLR.out _ r1⟩,F.drew⟩))
 refine rtake 0 ?_
 refine rtake 1 ?_
 refine rtake 2 ?_
 refine rtake 3 ?_
 refine rtake 4 ?_
 refine rtake 5 ?_
 refine rtake 6 ?_
 refine rtake 7 ?_
 refine rtake 8 ?_
 refine rone 9 fun K hK => ?_
 go_simp
 ((with_reducible refine (HDue.out _).mono ?_); rintro e5 w5 ⟨rfl,f5⟩)
 refine hK.out _ _ ?_ (fun hHeld => ?_)
 ·((try dsimp only) <;> (first | exact hHeld | exact ⟨⟨keep_fr f5 hHeld.1.1,keep_fr f5 hHeld.1.2.1,HLR.out _ (keep_fr f5 hHeld.1.1)⟩,hHeld.2.trans' f5⟩))
 clear hK K
 try (simp only [Act.put,aST]; dsimp only [aS0,aS1])
 refine rtake 10 ?_
 refine rdone ?_
 all_goals
  clear r1 r2 F
  obtain ⟨⟨r1,r2,rl⟩,F⟩ := hHeld
  cases due
  ·have HX := Lib.hid (HB.out.2 (of_decide_eq_false HDD.out))
   go_wp2_with fail
   go_ret
   exact ⟨by rw [HX.out]; rfl,F⟩
  ·have hdue := of_decide_eq_true HDD.out
   have hle : e ≤ (anc L i).length := by
    have h5 := HI.out.2.2.1
    rw [lineM,List.length_reverse] at h5
    have h6 := HHT.out.2
    rw [h5,h6]
    exact Nat.le_of_dvd (by omega) (Nat.dvd_of_mod_eq_zero hdue)
   obtain ⟨d,hd⟩ : ∃ d,e = d + 1 := ⟨e - 1,by have := HI.out.2.2.2.2.e0; omega⟩
   have he1 := HI.out.2.2.2.2.e1
   have m2 : IntKind.i64.wrap ((e : Int) - 1) = (d : Int) := by rw [IntWalk.i64_in _ (by omega)]; omega
   have HE := Lib.hid (And.intro hle (And.intro hd (And.intro hdue he1)))
   clear hle hd hdue he1
   go_wp2_with fail
   go_loopw [6,34] (fun sv kv wr => ∃ k j : Nat,kv = .int .i64 (k : Int) ∧ sv = .pointer (some ⟨ps.getD j 0,0,none⟩) ∧ k ≤ d ∧ (anc L i)[k]? = some j ∧ wr = w5) (fun _ kv _ => d - (intOf kv).toNat)
   case atStart =>
    obtain ⟨r,hr⟩ := anc_head HI.out.1.wf HI.out.2.1
    exact ⟨0,i,rfl,by rw [HQ.out],by omega,by rw [hr]; rfl,rfl⟩
   case round =>
    obtain ⟨k,j,rfl,rfl,hk,hj,rfl⟩ := hrel
    have hjl := (anc_drop HI.out.1.wf i HI.out.2.1 k j hj).2
    have r3 := (HT.out.fr F).blk j hjl
    have oj := HI.out.1.hd j hjl
    have sB2 := HI.out.1.blk_size hjl
    have e65 : (blkOf H L ps j)[65]? = some (.int .u32 ((bkT L j).time : Int)) := by rw [oj.2.2.1]; exact blkC_time oj.1
    have e100 : (blkOf H L ps j)[100]? = some (ptV ps (bkT L j).ahead) := blkC_up oj.1 (HI.out.1.at32 hjl)
    generalize blkOf H L ps j = B2 at *
    have t65 : 65 < B2.size := by omega
    have f65 := cell_is e65 t65
    have t100 : 100 < B2.size := by omega
    have f100 := cell_is e100 t100
    have HJ := Lib.hid (And.intro hj (And.intro hjl hk))
    by_cases h2 : k < d
    ·have l1 : (k : Int) < (d : Int) := by omega
     obtain ⟨m,hm,hml,hm2⟩ := anc_next HI.out.1.wf HI.out.2.1 hj (by have := HE.out; omega)
     rw [hm,ptV_some] at e100 f100
     generalize ps.getD j 0 = q2 at *
     have hdb : k ≤ 100000 := by have := HE.out; omega
     have HM := Lib.hid (And.intro hml (And.intro hm2 h2))
     clear hj hjl hk oj hm hml hm2 h2 e65 f65
     go_wp2_with fail
     go_roundw
     case rel => exact ⟨k + 1,m,by go_num,rfl,by have := HM.out; omega,HM.out.2.1,trivial⟩
     case measure => have := HM.out; simp [intOf]; omega
    ·have l1 : ¬ (k : Int) < (d : Int) := by omega
     have hfrom : fromM L e i = j := from_is HI.out.1.wf HI.out.2.1 (by have := HE.out; omega) (by rw [lineM,List.length_reverse]; exact HE.out.1) (by rw [show e - 1 = k by have := HE.out; omega]; exact hj)
     have htj : (bkT L j).time < 4294967296 := (HI.out.1.wf.at hjl).time
     have HX := Lib.hid (HB.out.1 HE.out.2.2.1)
     rw [hfrom] at HX
     generalize ps.getD j 0 = q2 at *
     generalize (bkT L j).time = tj at *
     have hti := HTI.out
     obtain ⟨dd,hdd⟩ : ∃ dd,(ti : Int) - (tj : Int) = dd := ⟨_,rfl⟩
     rw [hdd] at HX
     have m7 : IntKind.i64.wrap (ti : Int) = (ti : Int) := IntWalk.i64_in _ (by omega)
     have m8 : IntKind.i64.wrap (tj : Int) = (tj : Int) := IntWalk.i64_in _ (by omega)
     have m9 : IntKind.i64.wrap ((ti : Int) - (tj : Int)) = dd := by rw [IntWalk.i64_in _ (by omega)]; exact hdd
     clear hj hjl hk oj hfrom htj hti hdd h2 e100 f100
     go_upto_region 9 with fail
     refine rbegin (S := (fun w' => (w'.heap[p]? = some (.cells C 80 (0,0)) ∧ w'.heap[q]? = some (.cells B 77 (0,0)) ∧ w'.heap[q2]? = some (.cells B2 77 (0,0))) ∧ Fr F0 w w')) ?_ fun hHeld => ?_
     ·((try dsimp only) <;> (exact ⟨⟨r1,r2,r3⟩,F.drew⟩))
     refine rtake 0 ?_
     refine rtake 1 ?_
     refine rtake 2 ?_
     refine rtake 3 ?_
     refine rtake 4 ?_
     refine rtake 5 ?_
     refine rtake 6 ?_
     refine rtake 7 ?_
     refine rtake 8 ?_
     refine rtake 9 ?_
     refine rtake 10 ?_
     refine rtake 11 ?_
     refine rtake 12 ?_
     refine rtake 13 ?_
     refine rdone ?_
     all_goals
      clear r1 r2 r3 rl F
      obtain ⟨⟨r1,r2,r3⟩,F⟩ := hHeld
      have rl := HLR.out _ r1
      go_wp2_with fail
      (with_reducible refine (HNx.out _ _).mono ?_); rintro e6 w6 ⟨rfl,f⟩
      replace F := F.trans' f
      have hyes := (nx_yes (span := span) (limit := limit) (bits := xi) dd ⟨by rw [← HXI.out]; exact HI.out.2.2.2.1,HI.out.2.2.2.2.lim⟩ HI.out.2.2.2.2.s0).1
      rw [hyes,← HX.out]
      go_wp2_with fail
      go_ret
      exact ⟨rfl,F⟩
def bitA (L : List Bk) (e span limit : Nat) (h : List UInt8) : Nat := if findM L h < 0 then 0 else bitsM L e span limit (findM L h).toNat
def bitZ (L : List Bk) (h : List UInt8) : Int := if findM L h < 0 then 8 else 0
theorem kBits_any (HD : DecC) (HE : EncC) (HS : ScaleC) {w : World} {p : Nat} {R : Array Value} {bm : Nat} {H : List Hd} {L : List Bk} {ps : List Nat} {v : Value} {ch : List (List UInt8)} {e span limit : Nat} (ri : RI R e span limit) (I : TI H L ps) (T : TM w p R bm H L ps v ch) (hbits : ∀ i,i < L.length → btP (bkT L i).bits) (h : List UInt8) (hh : h.length = 32) :
  Calls Tryz.prog 34 #[.pointer (some ⟨p,0,none⟩),.agg (hc h)] w fun ed w' => ed = .returned (.tuple #[.int .u32 ((bitA L e span limit h : Nat) : Int),.int .i64 (bitZ L h)]) ∧ Fr F0 w w' := by
 have hR : R.size = 72 := by obtain ⟨c,h⟩ := ri.of; exact h.size
 have sh := hc_size hh
 have oh := hc_one h
 have HL := Lib.hid (fun W (f : Fr F0 w W) => (T.fr f).map.look I.h32 h hh)
 have HB := Lib.hid (fun W (f : Fr F0 w W) i (hi : i < L.length) => kBitsB_any HD HE HS ri I (T.fr f) i hi (hbits i hi))
 have r1 := T.top
 have sC := treC_size (bm := bm) (v := v) (tips := tipsM L) hR
 have c72 := treC_72 (bm := bm) (v := v) (tips := tipsM L) hR
 generalize treC R bm v (tipsM L) = C at *
 unfold bitA bitZ
 have hlt := findM_lt h L
 generalize findM L h = z at *
 have s72 : 72 < C.size := by omega
 have d72 := cell_is c72 s72
 have oV := ptV_one ps z
 have hcase : (z < 0 ∧ ptV ps z = .pointer none) ∨ ∃ i q : Nat,z = i ∧ i < L.length ∧ ps.getD i 0 = q ∧ ptV ps z = .pointer (some ⟨q,0,none⟩) := by
  rcases hlt with rfl | ⟨i,rfl,hi⟩
  ·exact .inl ⟨by omega,ptV_none _ (by omega)⟩
  ·exact .inr ⟨i,_,rfl,hi,rfl,ptV_some _ _⟩
 generalize ptV ps z = V at *
 generalize hc h = A at *
 replace r1 := keep_alloc (o := .cells A 25) r1
 have r0 := heap_alloc_new w (.cells A 25)
 have F := (Fr.refl F0 w).alloc (.cells A 25)
 have HC := Lib.hid hcase
 clear T I hR hh hlt hbits hcase
 go_enter Tryz.func34,Tryz.ntmps34
 go_wp2_with fail
 generalize hW : w.alloc (.cells A 25) = W at *
 generalize w.heap.size = g0 at *
 clear hW
 refine rbegin (S := (fun w' => (w'.heap[p]? = some (.cells C 80 (0,0)) ∧ w'.heap[g0]? = some (.cells A 25 (0,0)) ∧ (lookK (.map (some bm)) (.agg A) false).run Tryz.prog w' = .ok V w') ∧ Fr F0 w w')) ?_ fun hHeld => ?_
 ·((try dsimp only) <;> (exact ⟨⟨r1,r0,HL.out _ F.drew⟩,F.drew⟩))
 refine rtake 0 ?_
 refine rtake 1 ?_
 refine rtake 2 ?_
 refine rtake 3 ?_
 refine rtake 4 ?_
 refine rone 5 fun K hK => ?_
 go_simp
 refine hK.out _ _ ?_ (fun hHeld => ?_)
 ·((try dsimp only) <;> (exact hHeld))
 clear hK K
 try (simp only [Act.put,aST]; dsimp only [aS0,aS1])
 refine rtake 6 ?_
 refine rdone ?_
 all_goals
  clear r1 r0 F
  have F := hHeld.2
  clear hHeld
  rcases HC.out with ⟨hz,rfl⟩ | ⟨i,q,rfl,hi,hq,rfl⟩
  ·go_wp2_with fail
   go_ret2
   exact ⟨rfl,F⟩
  ·have HBi := Lib.hid (fun W f => HB.out W f i hi)
   rw [hq] at HBi
   clear hq
   go_wp2_with fail
   (with_reducible refine (HBi.out _ F).mono ?_); rintro e6 w6 ⟨rfl,f⟩
   replace F := F.trans' f
   go_wp2_with fail
   go_ret2
   exact ⟨rfl,F⟩
end Go.Proofs.YtedffdlkmpmdlaaGreatDoor
