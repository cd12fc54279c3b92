/- The document's answer 02 (digest): the walk of Parse. -/
import Derived.Test.YtkppakhjfagdnaaDoorParse2
import Derived.Test.YtkppakhjfagdnaaDoorDigZ
import Derived.Deep.CutBlock
import Derived.Deep.DeepCutAuto
namespace Go.Proofs.YtkppakhjfagdnaaDoor
set_option linter.unusedVariables false
set_option linter.unusedSimpArgs false
open Go.RowKit

attribute [local go_sem] strOf_size

theorem Tryd.builtR : Tryd.prog.built 22 [] = some ((List.replicate 32 (0 : UInt8)).map B8).toArray := by kernel_rfl
theorem Tryd.szR : (Tryd.prog.info? 22).map (·.size) = some 32 := by kernel_rfl

/-- What Parse answers: the hash (of noughts, where there is none). -/
def hashOr (o : Option (List UInt8)) : List UInt8 := o.getD (List.replicate 32 0)

theorem strOf_at (s : List UInt8) (i : Nat) (h : i < s.length) : (strOf s)[i]? = some (s.getD i 0) := by
  rw [getElem?_pos (strOf s) i (by rw [strOf_size]; exact h)]
  simp [strOf, ByteArray.getElem_eq_getElem_data, List.getD, List.getElem?_eq_getElem h]

theorem setB (L : List UInt8) (p : Nat) (v : UInt8) : ((L.map B8).toArray.setIfInBounds p (.int .u8 (v.toNat : Int))) = ((L.set p v).map B8).toArray := by
  apply Array.ext'
  simp only [Array.toList_setIfInBounds]
  rw [List.map_set]
  rfl

theorem wp_of_world2 {P : Program} {c : Code} {Q : Exit → Act → World → Prop} {a : Act} {w : World} (W : World) (h : W = w) (k : Code.wp P c Q a W) : Code.wp P c Q a w := h ▸ k

set_option maxRecDepth 100000 in
set_option maxHeartbeats 8000000 in
theorem r2Parse_any (s : List UInt8) (w : World) :
    Calls Tryd.prog 7 #[.string (strOf s)] w fun e w' => e = .returned (.tuple #[.agg ((hashOr (parseL s)).map B8).toArray, .bool (parseL s).isSome]) ∧ Fr F0 w w' := by
  have hz : ((List.replicate 32 (0 : UInt8)).map B8).toArray.size = 32 := by simp
  have hB := Tryd.builtR
  have hZ0 := Lib.hid (show parseN s 0 = some (List.replicate 32 0) from rfl)
  have hHO := Lib.hid (show hashOr none = List.replicate 32 0 from rfl)
  generalize hZ : List.replicate 32 (0 : UInt8) = Z at *
  have hZl : Z.length = 32 := by rw [← hZ]; simp
  have hZA : arrB [] 32 = (Z.map B8).toArray := by rw [← hZ]; rfl
  clear hZ
  go_enter Tryd.func7, Tryd.ntmps7
  go_upto_region 2 with (first | refine wpList_build_no rfl 22 rfl _ hB ?_ | refine wpList_store_row rfl 22 (.tmp 4) (.tmp 7) rfl (w.heap.size + 1) _ rfl rfl 22 (arrB [] 32) (heap_alloc2_new w (.cells (arrB [] 32) 22) (.cells (arrB [] 32) 22)) (by rw [Tryd.szR, hz]) (by rw [hZA]) (oneB_map _) ?_)
  obtain ⟨W1, hW1⟩ : ∃ W1, W1 = (((w.alloc (.cells (arrB [] 32) 22)).alloc (.cells (arrB [] 32) 22)).setRow (w.heap.size + 1) (Z.map B8).toArray) := ⟨_, rfl⟩
  have r1 : W1.heap[w.heap.size]? = some (.cells (Z.map B8).toArray 22 (0, 0)) := by
    rw [hW1, setRow_other _ _ _ _ (by omega), ← hZA]
    exact heap_alloc2_old _ _ _
  have h1 : W1.heap[w.heap.size + 1]? = some (.cells (Z.map B8).toArray 22 (0, 0)) := by
    rw [hW1]
    exact setRow_heap _ _ _ _ _ _ (heap_alloc2_new _ _ _)
  have f1 : Fr F0 w W1 := by
    rw [hW1]
    exact (((Fr.refl F0 w).alloc _).alloc _).setRow (fun h => by omega) _
  refine wp_of_world2 W1 hW1 ?_
  clear hW1
  generalize hHb : w.heap.size + 1 = Hb at *
  by_cases h64 : s.length = 64
  · have l64 : ((s.length : Int) != 64) = false := by rw [h64]; rfl
    go_wp2_with fail
    go_loopw [5] (fun iv wr => ∃ (i : Nat) (h : List UInt8), i ≤ 64 ∧ iv = .int .i64 i ∧ parseN s i = some h ∧ wr.heap[Hb]? = some (.cells (h.map B8).toArray 22 (0, 0)) ∧ wr.heap[w.heap.size]? = some (.cells (Z.map B8).toArray 22 (0, 0)) ∧ Fr F0 w wr) (fun iv _ => 64 - (intOf iv).toNat)
    case atStart => exact ⟨0, Z, by omega, rfl, hZ0.out, h1, r1, f1⟩
    case round =>
      clear h1 r1 f1
      obtain ⟨i, h, hi, rfl, hpn, hH, hR, hf⟩ := hrel
      have hhl := parseN_length s i h hpn
      by_cases hi64 : i < 64
      · have li : (i : Int) < 64 := by omega
        have hc := strOf_at s i (by omega)
        obtain ⟨c, hcd⟩ : ∃ c, c = s.getD i 0 := ⟨_, rfl⟩
        rw [← hcd] at hc
        have hcE : (strOf s)[i]'(by rw [strOf_size]; omega) = c := by
          rw [getElem?_pos (strOf s) i (by rw [strOf_size]; omega)] at hc
          simpa using hc
        have hX := c.toNat_lt
        obtain ⟨X, hXe⟩ : ∃ X, X = c.toNat := ⟨_, rfl⟩
        have hXe' : c.toNat = X := hXe.symm
        by_cases d1 : 48 ≤ X ∧ X ≤ 57
        · obtain ⟨d, hd⟩ : ∃ d, d = X - 48 := ⟨_, rfl⟩
          have hv : hexv c = some (UInt8.ofNat d) := by rw [hexv, ← hXe, if_pos d1, hd]
          have g1 : (48 : Int) ≤ X := by omega
          have g2 : (X : Int) ≤ 57 := by omega
          have g3 : IntKind.u8.wrap ((X : Int) - 48) = (d : Int) := by rw [IntWalk.u8_in _ (by omega)]; omega
          have hdl : d < 16 := by omega
          skip
          obtain ⟨p, hp⟩ : ∃ p, p = 31 - i / 2 := ⟨_, rfl⟩
          obtain ⟨i2, hi2⟩ : ∃ q, q = i / 2 := ⟨_, rfl⟩
          have ei : (i : Int) / 2 = (i2 : Int) := by omega
          have et : Int.tdiv (i : Int) 2 = (i2 : Int) := by rw [Int.tdiv_eq_ediv_of_nonneg (by omega)]; omega
          have m31 : IntKind.i64.wrap (31 - (i2 : Int)) = (p : Int) := by rw [IntWalk.i64_in _ (by omega)]; omega
          have lp : (p : Int) < 32 := by omega
          have hcell := rowB_get hH p (by rw [hhl]; omega)
          have z0 := free_row (i := p) hH
          have HS := Lib.hid (show parseN s (i + 1) = some (h.set p (UInt8.ofNat ((h.getD p 0).toNat * 16 + (UInt8.ofNat d).toNat))) from by rw [parseN, hpn, ← hcd, hv]; rw [hp])
          generalize h.getD p 0 = y at *
          have hy := y.toNat_lt
          have hdN : (UInt8.ofNat d).toNat = d := by rw [UInt8.toNat_ofNat']; omega
          rw [hdN] at HS
          obtain ⟨z, hz16⟩ : ∃ z, z = y.toNat * 16 % 256 := ⟨_, rfl⟩
          have my : IntKind.u8.wrap ((y.toNat : Int) * 16) = (z : Int) := by rw [IntKind.wrap_u8]; omega
          have ma : IntKind.u8.wrap ((z : Int) + (d : Int)) = (((UInt8.ofNat (y.toNat * 16 + d)).toNat : Nat) : Int) := by rw [IntKind.wrap_u8, UInt8.toNat_ofNat']; omega
          generalize UInt8.ofNat (y.toNat * 16 + d) = V at *
          generalize y.toNat = yn at *
          have HH := Lib.hid (And.intro hH (And.intro hR hf))
          clear hp hi2 hz16 hH hR hf hpn hv hdN hcd hXe hd
          go_wp2
          go_roundw
          case rel =>
            obtain ⟨hH, hR, hf⟩ := HH.out
            refine ⟨i + 1, _, by omega, by go_num, HS.out, ?_, ?_, hf.setCell (p := ⟨Hb, _, none⟩) (fun h => by simp only at h; omega) _⟩
            · have g := heap_setCell_in wr Hb p _ _ _ (.int .u8 (V.toNat : Int)) hH
              rw [setB] at g
              exact g
            · rw [Below.heap_setCell _ _ _ _ (show w.heap.size ≠ Hb by omega)]; exact hR
          case measure => simp [intOf] <;> omega
        · by_cases d2 : 97 ≤ X ∧ X ≤ 102
          · obtain ⟨d, hd⟩ : ∃ d, d = X - 87 := ⟨_, rfl⟩
            have hv : hexv c = some (UInt8.ofNat d) := by rw [hexv, ← hXe, if_neg d1, if_pos d2, hd]
            have g1 : (48 : Int) ≤ X := by omega
            have g2 : ¬ (X : Int) ≤ 57 := by omega
            have g4 : (97 : Int) ≤ X := by omega
            have g5 : (X : Int) ≤ 102 := by omega
            have g3 : IntKind.u8.wrap ((X : Int) - 87) = (d : Int) := by rw [IntWalk.u8_in _ (by omega)]; omega
            have hdl : d < 16 := by omega
            obtain ⟨p, hp⟩ : ∃ p, p = 31 - i / 2 := ⟨_, rfl⟩
            obtain ⟨i2, hi2⟩ : ∃ q, q = i / 2 := ⟨_, rfl⟩
            have ei : (i : Int) / 2 = (i2 : Int) := by omega
            have et : Int.tdiv (i : Int) 2 = (i2 : Int) := by rw [Int.tdiv_eq_ediv_of_nonneg (by omega)]; omega
            have m31 : IntKind.i64.wrap (31 - (i2 : Int)) = (p : Int) := by rw [IntWalk.i64_in _ (by omega)]; omega
            have lp : (p : Int) < 32 := by omega
            have hcell := rowB_get hH p (by rw [hhl]; omega)
            have z0 := free_row (i := p) hH
            have HS := Lib.hid (show parseN s (i + 1) = some (h.set p (UInt8.ofNat ((h.getD p 0).toNat * 16 + (UInt8.ofNat d).toNat))) from by rw [parseN, hpn, ← hcd, hv]; rw [hp])
            generalize h.getD p 0 = y at *
            have hy := y.toNat_lt
            have hdN : (UInt8.ofNat d).toNat = d := by rw [UInt8.toNat_ofNat']; omega
            rw [hdN] at HS
            obtain ⟨z, hz16⟩ : ∃ z, z = y.toNat * 16 % 256 := ⟨_, rfl⟩
            have my : IntKind.u8.wrap ((y.toNat : Int) * 16) = (z : Int) := by rw [IntKind.wrap_u8]; omega
            have ma : IntKind.u8.wrap ((z : Int) + (d : Int)) = (((UInt8.ofNat (y.toNat * 16 + d)).toNat : Nat) : Int) := by rw [IntKind.wrap_u8, UInt8.toNat_ofNat']; omega
            generalize UInt8.ofNat (y.toNat * 16 + d) = V at *
            generalize y.toNat = yn at *
            have HH := Lib.hid (And.intro hH (And.intro hR hf))
            clear hp hi2 hz16 hH hR hf hpn hv hdN hcd hXe hd
            go_wp2
            go_roundw
            case rel =>
              obtain ⟨hH, hR, hf⟩ := HH.out
              refine ⟨i + 1, _, by omega, by go_num, HS.out, ?_, ?_, hf.setCell (p := ⟨Hb, _, none⟩) (fun h => by simp only at h; omega) _⟩
              · have g := heap_setCell_in wr Hb p _ _ _ (.int .u8 (V.toNat : Int)) hH
                rw [setB] at g
                exact g
              · rw [Below.heap_setCell _ _ _ _ (show w.heap.size ≠ Hb by omega)]; exact hR
            case measure => simp [intOf] <;> omega
          · have hv : hexv c = none := by rw [hexv, ← hXe, if_neg d1, if_neg d2]
            have hn1 : parseN s (i + 1) = none := by rw [parseN, hpn, ← hcd, hv]
            have hn : parseL s = none := by
              have := parseN_none s (i + 1) hn1 (63 - i)
              rw [show i + 1 + (63 - i) = 64 by omega] at this
              rw [parseL, if_pos h64, this]
            have HN := Lib.hid hn
            clear hn1 hn hv hcd hXe hpn hH
            go_wp2_with (first | refine wpList_build_no rfl 22 rfl _ hB ?_ | refine wpList_store_row rfl 22 (.tmp 2) (.tmp 44) rfl w.heap.size (Z.map B8).toArray rfl rfl 22 _ hR (by rw [Tryd.szR, hz]) rfl (oneB_map _) ?_)
            all_goals (refine bodyPost_ret (results_cell_row_tmp rfl _ _ w.heap.size _ _ _ _ rfl (setRow_heap _ _ _ _ _ _ hR) Tryd.underlying22 rfl (by rw [Tryd.szR, hz])) rfl ⟨?_, hf.setRow (fun h => by omega) _⟩; rw [HN.out, hHO.out]; rfl)
      · have hi0 : i = 64 := by omega
        rw [hi0] at hpn
        have hp : parseL s = some h := by rw [parseL, if_pos h64, hpn]
        have HP := Lib.hid hp
        have li : ¬ (i : Int) < 64 := by omega
        have hbz : (h.map B8).toArray.size = 32 := by simp [hhl]
        clear hi0 hp hpn
        go_wp2_with (first | refine wpList_load_row rfl 22 (.tmp 4) rfl Hb rfl 22 _ (0, 0) _ hH Tryd.underlying22 rfl (by rw [Tryd.szR, hbz]) ?_ | refine wpList_store_row rfl 22 (.tmp 2) (.tmp 57) rfl w.heap.size (h.map B8).toArray rfl rfl 22 _ hR (by rw [Tryd.szR, hbz]) (hz.trans hbz.symm) (oneB_map _) ?_)
        refine bodyPost_ret (results_cell_row_tmp rfl _ _ w.heap.size _ _ _ _ rfl (setRow_heap _ _ _ _ _ _ hR) Tryd.underlying22 rfl (by rw [Tryd.szR, hbz])) rfl ⟨?_, hf.setRow (fun h => by omega) _⟩
        rw [HP.out]
        rfl
  · have l64 : ((s.length : Int) != 64) = true := by simp; omega
    have hp : parseL s = none := by rw [parseL, if_neg h64]
    have HP := Lib.hid hp
    clear hp
    go_wp2_with (first | refine wpList_load_row rfl 22 (.tmp 4) rfl Hb rfl 22 _ (0, 0) _ h1 Tryd.underlying22 rfl (by rw [Tryd.szR, hz]) ?_ | refine wpList_store_row rfl 22 (.tmp 2) (.tmp 11) rfl w.heap.size (Z.map B8).toArray rfl rfl 22 _ r1 (by rw [Tryd.szR, hz]) rfl (oneB_map _) ?_)
    refine bodyPost_ret (results_cell_row_tmp rfl _ _ w.heap.size _ _ _ _ rfl (setRow_heap _ _ _ _ _ _ r1) Tryd.underlying22 rfl (by rw [Tryd.szR, hz])) rfl ⟨?_, f1.setRow (fun h => by omega) _⟩
    rw [HP.out, hHO.out]
    rfl
end Go.Proofs.YtkppakhjfagdnaaDoor
