import Derived.Test.YtdihahegmfdccaaDoorZd10
import Derived.Lib.Bytealg
import Derived.Laws.Externs
/- strings.IndexByte among the signs of hexadecimal. -/
namespace Go.Proofs.YtdihahegmfdccaaDoor
set_option linter.unusedVariables false
set_option linter.unusedSimpArgs false
open Go.RowKit

/-- Where a sign stands among them, or -1. -/
def ixv (c : UInt8) : Int := match hexv c with | some d => (d.toNat : Int) | none => -1

theorem ix_all : ∀ n, n < 256 → Lib.indexByte signsL (UInt8.ofNat n) = ixv (UInt8.ofNat n) := by decide +kernel

abbrev signsB : ByteArray := { data := #[48, 49, 50, 51, 52, 53, 54, 55, 56, 57, 97, 98, 99, 100, 101, 102] }

@[go_sem] theorem run_IBS (c : UInt8) (w : World) :
    (callFunc 86 #[.string signsB, .int .u8 (c.toNat : Int)]).run Tryd.prog w = .ok (.value (.int .i64 (ixv c))) w := by
  rw [run_callFunc_extern Tryd.func86 (by kernel_rfl) (by kernel_rfl) (by kernel_rfl) (e := Extern.BytealgIndexByte.indexByte) (by kernel_rfl), Lib.run_indexByteString]
  have h := ix_all c.toNat c.toNat_lt
  have e : UInt8.ofNat c.toNat = c := by simp
  rw [e] at h
  have e2 : ((c.toNat : Int)).toNat.toUInt8 = c := by simp
  rw [e2, show signsB.data.toList = signsL from rfl, h]
  rfl

theorem slIndexByte_any (c : UInt8) (w : World) : Calls Tryd.prog 80 #[.string signsB, .int .u8 (c.toNat : Int)] w fun e w' => e = .returned (.int .i64 (ixv c)) ∧ w' = w := by
  have h := run_IBS c
  generalize ixv c = z at *
  generalize (c.toNat : Int) = y at *
  go_enter Tryd.func80, Tryd.ntmps80
  go_wp2
  go_ret
  exact ⟨rfl, rfl⟩
theorem sIndexByte_any (c : UInt8) (w : World) : Calls Tryd.prog 63 #[.string signsB, .int .u8 (c.toNat : Int)] w fun e w' => e = .returned (.int .i64 (ixv c)) ∧ w' = w := by
  have H := Lib.hid (slIndexByte_any c)
  generalize ixv c = z at *
  generalize (c.toNat : Int) = y at *
  go_enter Tryd.func63, Tryd.ntmps63
  go_wp2_with fail
  (with_reducible refine (H.out _).mono ?_); rintro e w1 ⟨rfl, hw⟩; replace hw := hw.symm; subst hw
  go_wp2_with fail
  go_ret
  exact ⟨rfl, rfl⟩
end Go.Proofs.YtdihahegmfdccaaDoor

/- Stage 2, digest: Parse. -/
namespace Go.Proofs.YtdihahegmfdccaaDoor
set_option linter.unusedVariables false
set_option linter.unusedSimpArgs false
open Go.RowKit

attribute [local go_sem] strOf_size

theorem Tryd.szH : (Tryd.prog.info? 24).map (·.size) = some 32 := by kernel_rfl

theorem hexv_lt {c d : UInt8} (h : hexv c = some d) : d.toNat < 16 := by
  unfold hexv at h
  split at h
  · simp only [Option.some.injEq] at h
    subst h
    rw [UInt8.toNat_ofNat']
    omega
  · split at h
    · simp only [Option.some.injEq] at h
      subst h
      rw [UInt8.toNat_ofNat']
      omega
    · cases h

theorem or_low (z d : Nat) (hz : z < 256) (h16 : z % 16 = 0) (hd : d < 16) : bits .or .u8 (z : Int) (d : Int) = ((z + d : Nat) : Int) := by
  rw [u8_or_nat z d hz (by omega)]
  congr 1
  obtain ⟨q, rfl⟩ : ∃ q, z = q * 16 := ⟨z / 16, by omega⟩
  have := Nat.shiftLeft_add_eq_or_of_lt (a := q) (i := 4) (b := d) (by omega)
  rw [Nat.shiftLeft_eq] at this
  exact this.symm

/-- What is told beside a hash. -/
def parE (o : Option (List UInt8)) : Int := if o.isSome then 0 else 2

set_option maxRecDepth 100000 in
set_option maxHeartbeats 8000000 in
theorem dParse_any (s : List UInt8) (w : World) :
    Calls Tryd.prog 41 #[.string (strOf s)] w fun e w' => e = .returned (.tuple #[.agg ((hashOr (parseL s)).map B8).toArray, .int .i64 (parE (parseL s))]) ∧ Fr F0 w w' := by
  have hz : ((List.replicate 32 (0 : UInt8)).map B8).toArray.size = 32 := by simp
  have hB := Tryd.builtH
  have hZ0 := Lib.hid (show parseN s 0 = some (List.replicate 32 0) from rfl)
  have hHO := Lib.hid (show hashOr none = List.replicate 32 0 from rfl)
  generalize hZ : List.replicate 32 (0 : UInt8) = Z at *
  have hZl : Z.length = 32 := by rw [← hZ]; simp
  have hZA : arrB [] 32 = (Z.map B8).toArray := by rw [← hZ]; rfl
  clear hZ
  by_cases h64 : s.length = 64
  · have l64 : ((s.length : Int) != 64) = false := by rw [h64]; rfl
    go_enter Tryd.func41, Tryd.ntmps41
    go_upto_region 4 with fail
    obtain ⟨W1, hW1⟩ : ∃ W1, W1 = ((w.alloc (.cells (arrB [] 32) 24)).alloc (.cells (arrB [] 32) 24)) := ⟨_, rfl⟩
    have r1 : W1.heap[w.heap.size]? = some (.cells (Z.map B8).toArray 24 (0, 0)) := by
      rw [hW1, ← hZA]
      exact heap_alloc2_old _ _ _
    have h1 : W1.heap[w.heap.size + 1]? = some (.cells (Z.map B8).toArray 24 (0, 0)) := by
      rw [hW1, ← hZA]
      exact heap_alloc2_new _ _ _
    have f1 : Fr F0 w W1 := by
      rw [hW1]
      exact ((Fr.refl F0 w).alloc _).alloc _
    refine wp_of_world2 W1 hW1 ?_
    clear hW1
    generalize hHb : w.heap.size + 1 = Hb at *
    go_wp2_with fail
    go_loopw [12] (fun iv wr => ∃ (i : Nat) (h : List UInt8), i ≤ 64 ∧ iv = .int .i64 i ∧ parseN s i = some h ∧ wr.heap[Hb]? = some (.cells (h.map B8).toArray 24 (0, 0)) ∧ wr.heap[w.heap.size]? = some (.cells (Z.map B8).toArray 24 (0, 0)) ∧ Fr F0 w wr) (fun iv _ => 64 - (intOf iv).toNat)
    case atStart => exact ⟨0, Z, by omega, rfl, hZ0.out, h1, r1, f1⟩
    case round =>
      clear h1 r1 f1
      obtain ⟨i, h, hi, rfl, hpn, hH, hR, hf⟩ := hrel
      have hhl := parseN_length s i h hpn
      by_cases hi64 : i < 64
      · have li : (i : Int) < 64 := by omega
        have hc := strOf_at s i (by omega)
        obtain ⟨c, hcd⟩ : ∃ c, c = s.getD i 0 := ⟨_, rfl⟩
        rw [← hcd] at hc
        have hcE : (strOf s)[i]'(by rw [strOf_size]; omega) = c := by
          rw [getElem?_pos (strOf s) i (by rw [strOf_size]; omega)] at hc
          simpa using hc
        have HX := Lib.hid (sIndexByte_any c)
        obtain ⟨X, hXe⟩ : ∃ X, X = c.toNat := ⟨_, rfl⟩
        rw [← hXe] at HX
        have hXe' : c.toNat = X := hXe.symm
        cases hv : hexv c with
        | none =>
          have hx : ixv c = -1 := by unfold ixv; rw [hv]
          rw [hx] at HX
          have hn1 : parseN s (i + 1) = none := by rw [parseN, hpn, ← hcd, hv]
          have hn : parseL s = none := by
            have := parseN_none s (i + 1) hn1 (63 - i)
            rw [show i + 1 + (63 - i) = 64 by omega] at this
            rw [parseL, if_pos h64, this]
          have HN := Lib.hid hn
          clear hn1 hn hv hcd hXe hpn hH hx
          go_wp2_with fail
          (with_reducible refine (HX.out _).mono ?_); rintro e w4 ⟨rfl, hw⟩; replace hw := hw.symm; subst hw
          go_wp2_with (first | refine wpList_build_no rfl 24 rfl _ hB ?_ | refine wpList_store_row rfl 24 (.tmp 2) (.tmp 21) rfl w.heap.size (Z.map B8).toArray rfl rfl 24 _ hR (by rw [Tryd.szH, hz]) rfl (oneB_map _) ?_)
          refine bodyPost_ret (results_cell_row_tmp rfl _ _ w.heap.size _ _ _ _ rfl (setRow_heap _ _ _ _ _ _ hR) Tryd.underlying24 rfl (by rw [Tryd.szH, hz])) rfl ⟨?_, hf.setRow (fun h => by omega) _⟩
          rw [HN.out, hHO.out]
          rfl
        | some d =>
          have hx : ixv c = (d.toNat : Int) := by unfold ixv; rw [hv]
          rw [hx] at HX
          have hdl := hexv_lt hv
          obtain ⟨p, hp⟩ : ∃ p, p = 31 - i / 2 := ⟨_, rfl⟩
          obtain ⟨i2, hi2⟩ : ∃ q, q = i / 2 := ⟨_, rfl⟩
          have ei : (i : Int) / 2 = (i2 : Int) := by omega
          have et : Int.tdiv (i : Int) 2 = (i2 : Int) := by rw [Int.tdiv_eq_ediv_of_nonneg (by omega)]; omega
          have m31 : IntKind.i64.wrap (31 - (i2 : Int)) = (p : Int) := by rw [IntWalk.i64_in _ (by omega)]; omega
          have lp : (p : Int) < 32 := by omega
          have hcell := rowB_get hH p (by rw [hhl]; omega)
          have z0 := free_row (i := p) hH
          have HS := Lib.hid (show parseN s (i + 1) = some (h.set p (UInt8.ofNat ((h.getD p 0).toNat * 16 + d.toNat))) from by rw [parseN, hpn, ← hcd, hv]; rw [hp])
          generalize h.getD p 0 = y at *
          have hy := y.toNat_lt
          generalize d.toNat = dn at *
          obtain ⟨z, hz16⟩ : ∃ z, z = y.toNat * 16 % 256 := ⟨_, rfl⟩
          have md : IntKind.u8.wrap (dn : Int) = (dn : Int) := IntWalk.u8_in _ (by omega)
          have my : IntKind.u8.wrap ((y.toNat : Int) * 16) = (z : Int) := by rw [IntKind.wrap_u8]; omega
          generalize hV : UInt8.ofNat (y.toNat * 16 + dn) = V at *
          have HV := Lib.hid (show V.toNat = z + dn by rw [← hV, UInt8.toNat_ofNat']; omega)
          generalize y.toNat = yn at *
          have HO := Lib.hid (or_low z dn (by omega) (by omega) hdl)
          have HH := Lib.hid (And.intro hH (And.intro hR hf))
          clear hp hi2 hz16 hH hR hf hpn hv hcd hXe hV
          go_wp2_with fail
          (with_reducible refine (HX.out _).mono ?_); rintro e w4 ⟨rfl, hw⟩; replace hw := hw.symm; subst hw
          go_wp2_with fail
          go_roundw
          case rel =>
            obtain ⟨hH, hR, hf⟩ := HH.out
            rw [HO.out, ← HV.out]
            refine ⟨i + 1, _, by omega, by go_num, HS.out, ?_, ?_, hf.setCell (p := ⟨Hb, _, none⟩) (fun h => by simp only at h; omega) _⟩
            · have g := heap_setCell_in wr Hb p _ _ _ (.int .u8 (V.toNat : Int)) hH
              rw [setB] at g
              exact g
            · rw [Below.heap_setCell _ _ _ _ (show w.heap.size ≠ Hb by omega)]; exact hR
          case measure => simp [intOf] <;> omega
      · have hi0 : i = 64 := by omega
        rw [hi0] at hpn
        have hp : parseL s = some h := by rw [parseL, if_pos h64, hpn]
        have HP := Lib.hid hp
        have li : ¬ (i : Int) < 64 := by omega
        have hbz : (h.map B8).toArray.size = 32 := by simp [hhl]
        clear hi0 hp hpn
        go_wp2_with (first | refine wpList_load_row rfl 24 (.tmp 4) rfl Hb rfl 24 _ (0, 0) _ hH Tryd.underlying24 rfl (by rw [Tryd.szH, hbz]) ?_ | refine wpList_store_row rfl 24 (.tmp 2) (.tmp 35) rfl w.heap.size (h.map B8).toArray rfl rfl 24 _ hR (by rw [Tryd.szH, hbz]) (hz.trans hbz.symm) (oneB_map _) ?_)
        refine bodyPost_ret (results_cell_row_tmp rfl _ _ w.heap.size _ _ _ _ rfl (setRow_heap _ _ _ _ _ _ hR) Tryd.underlying24 rfl (by rw [Tryd.szH, hbz])) rfl ⟨?_, hf.setRow (fun h => by omega) _⟩
        rw [HP.out]
        rfl
  · have l64 : ((s.length : Int) != 64) = true := by simp; omega
    have hp : parseL s = none := by rw [parseL, if_neg h64]
    have HP := Lib.hid hp
    clear hp
    go_enter Tryd.func41, Tryd.ntmps41
    go_upto_region 1 with fail
    obtain ⟨W1, hW1⟩ : ∃ W1, W1 = w.alloc (.cells (arrB [] 32) 24) := ⟨_, rfl⟩
    have r1 : W1.heap[w.heap.size]? = some (.cells (Z.map B8).toArray 24 (0, 0)) := by
      rw [hW1, ← hZA]
      exact heap_alloc_new _ _
    have f1 : Fr F0 w W1 := by
      rw [hW1]
      exact (Fr.refl F0 w).alloc _
    refine wp_of_world2 W1 hW1 ?_
    clear hW1
    go_wp2_with (first | refine wpList_build_no rfl 24 rfl _ hB ?_ | refine wpList_store_row rfl 24 (.tmp 2) (.tmp 11) rfl w.heap.size (Z.map B8).toArray rfl rfl 24 _ r1 (by rw [Tryd.szH, hz]) rfl (oneB_map _) ?_)
    refine bodyPost_ret (results_cell_row_tmp rfl _ _ w.heap.size _ _ _ _ rfl (setRow_heap _ _ _ _ _ _ r1) Tryd.underlying24 rfl (by rw [Tryd.szH, hz])) rfl ⟨?_, f1.setRow (fun h => by omega) _⟩
    rw [HP.out, hHO.out]
    rfl
end Go.Proofs.YtdihahegmfdccaaDoor
