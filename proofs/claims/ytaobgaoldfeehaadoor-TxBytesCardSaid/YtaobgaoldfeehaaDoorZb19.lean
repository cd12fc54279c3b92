import Derived.Test.YtaobgaoldfeehaaDoorZb18
import Derived.Test.YtaobgaoldfeehaaDoorZb13
import Derived.Test.YtaobgaoldfeehaaDoorZb2
import Derived.ProofKit
import Derived.LaidMore
import Derived.OpenShut
import Derived.Stop.Joined
import Derived.MakeChecks
import Derived.FnData
/- The document's answer 02 (digest): the walk of Double. -/
namespace Go.Proofs.YtaobgaoldfeehaaDoor
set_option linter.unusedVariables false
set_option linter.unusedSimpArgs false
open Go.RowKit

set_option maxHeartbeats 4000000 in
theorem r2Double_any (a : Option Addr) (n c : Nat) (bs : List UInt8) (hn : n = bs.length) (hl : bs.length ≤ 1000000) (w : World) (h : Bs w a c bs) :
    Calls Tryd.prog 12 #[.slice a n c] w fun e w' => e = .returned (.agg ((sha2 bs).map B8).toArray) ∧ Fr F0 w w' := by
  subst hn
  have hz1 : ((sha bs).map B8).toArray.size = 32 := by simp [sha_length]
  have hz2 : ((sha2 bs).map B8).toArray.size = 32 := by simp [sha2, sha_length]
  have HB := Lib.hid h
  clear h
  go_enter Tryd.func12, Tryd.ntmps12
  go_wp2_with fail
  refine (r2Sum_any a _ c bs rfl hl _ (Sl.fr HB.out ((Fr.refl F0 w).alloc _) fun _ _ f => f)).mono ?_
  rintro e w1 ⟨rfl, h1⟩
  have h1s := h1.size
  simp only [World.size_alloc] at h1s
  go_wp2_with (refine wpList_store_row rfl 33 (.tmp 3) (.tmp 5) rfl w1.heap.size _ rfl rfl 33 _ (heap_alloc_new w1 _) (by rw [Tryd.sz32w, hz1]) (by rw [hz1]; rfl) (oneB_map _) ?_)
  generalize hY : w1.heap.size = Y at *
  have hF2 : Fr F0 w ((w1.alloc (.cells #[.int .u8 0, .int .u8 0, .int .u8 0, .int .u8 0, .int .u8 0, .int .u8 0, .int .u8 0, .int .u8 0, .int .u8 0, .int .u8 0, .int .u8 0, .int .u8 0, .int .u8 0, .int .u8 0, .int .u8 0, .int .u8 0, .int .u8 0, .int .u8 0, .int .u8 0, .int .u8 0, .int .u8 0, .int .u8 0, .int .u8 0, .int .u8 0, .int .u8 0, .int .u8 0, .int .u8 0, .int .u8 0, .int .u8 0, .int .u8 0, .int .u8 0, .int .u8 0] 33)).setRow Y ((sha bs).map B8).toArray) := ((((Fr.refl F0 w).alloc _).trans' h1).alloc _).setRow (fun h => by omega) _
  have hY2 := setRow_heap _ _ _ ((sha bs).map B8).toArray _ _ (show (w1.alloc (.cells #[.int .u8 0, .int .u8 0, .int .u8 0, .int .u8 0, .int .u8 0, .int .u8 0, .int .u8 0, .int .u8 0, .int .u8 0, .int .u8 0, .int .u8 0, .int .u8 0, .int .u8 0, .int .u8 0, .int .u8 0, .int .u8 0, .int .u8 0, .int .u8 0, .int .u8 0, .int .u8 0, .int .u8 0, .int .u8 0, .int .u8 0, .int .u8 0, .int .u8 0, .int .u8 0, .int .u8 0, .int .u8 0, .int .u8 0, .int .u8 0, .int .u8 0, .int .u8 0] 33)).heap[Y]? = some (.cells _ 33 (0, 0)) by rw [← hY]; exact heap_alloc_new w1 _)
  have hR : ∃ cs, ((w1.alloc (.cells #[.int .u8 0, .int .u8 0, .int .u8 0, .int .u8 0, .int .u8 0, .int .u8 0, .int .u8 0, .int .u8 0, .int .u8 0, .int .u8 0, .int .u8 0, .int .u8 0, .int .u8 0, .int .u8 0, .int .u8 0, .int .u8 0, .int .u8 0, .int .u8 0, .int .u8 0, .int .u8 0, .int .u8 0, .int .u8 0, .int .u8 0, .int .u8 0, .int .u8 0, .int .u8 0, .int .u8 0, .int .u8 0, .int .u8 0, .int .u8 0, .int .u8 0, .int .u8 0] 33)).setRow Y ((sha bs).map B8).toArray).heap[w.heap.size]? = some (.cells cs 33 (0, 0)) ∧ cs.size = 32 := ⟨_, by rw [setRow_other _ _ _ _ (by omega), heap_alloc_old _ _ (by omega)]; exact h1.keeps (fun f => f) (heap_alloc_new w _), rfl⟩
  generalize (w1.alloc (.cells #[.int .u8 0, .int .u8 0, .int .u8 0, .int .u8 0, .int .u8 0, .int .u8 0, .int .u8 0, .int .u8 0, .int .u8 0, .int .u8 0, .int .u8 0, .int .u8 0, .int .u8 0, .int .u8 0, .int .u8 0, .int .u8 0, .int .u8 0, .int .u8 0, .int .u8 0, .int .u8 0, .int .u8 0, .int .u8 0, .int .u8 0, .int .u8 0, .int .u8 0, .int .u8 0, .int .u8 0, .int .u8 0, .int .u8 0, .int .u8 0, .int .u8 0, .int .u8 0] 33)).setRow Y ((sha bs).map B8).toArray = w2 at *
  obtain ⟨cs, hR, hRz⟩ := hR
  have hx := Bs.of_row hY2 (by rw [sha_length]; unfold maxLen; omega)
  rw [sha_length] at hx
  refine (r2Sum_any _ 32 32 (sha bs) (sha_length _).symm (by rw [sha_length]; omega) _ hx).mono ?_
  rintro e w3 ⟨rfl, h3⟩
  go_wp2_with (refine wpList_store_row rfl 33 (.tmp 2) (.tmp 7) rfl w.heap.size _ rfl rfl 33 _ (h3.keeps (fun f => f) hR) (by rw [Tryd.sz32w]; exact congrArg some hz2.symm) (by rw [hRz]; exact hz2.symm) (oneB_map _) ?_)
  refine bodyPost_ret (results_cell_row rfl _ _ w.heap.size _ _ _ _ rfl (setRow_heap _ _ _ _ _ _ (h3.keeps (fun f => f) hR)) Tryd.underlying33 rfl (by rw [Tryd.sz32w]; exact congrArg some hz2.symm)) rfl ⟨rfl, ?_⟩
  exact (hF2.trans' h3).setRow (fun h => by omega) _
end Go.Proofs.YtaobgaoldfeehaaDoor

/- Stage 2, digest: Zero. -/
namespace Go.Proofs.YtaobgaoldfeehaaDoor
set_option linter.unusedVariables false
set_option linter.unusedSimpArgs false
open Go.RowKit

theorem wpList_build_no {P : Program} {w : World} {ops : Array Oper} {rest : List Oper} {o : Oper} {a : Act} {Q : Exit → Act → World → Prop} (hg : o.guard = none) (t : TypeId) (ho : o.op = .build t #[]) (cells : Array Value)
    (hb : P.built t [] = some cells) (h : wpList P ops Q rest (a.put o.dst (.agg cells)) w) : wpList P ops Q (o :: rest) a w := by
  refine wpList_build hg t #[] ho (by simp [hb]) ?_
  simpa [hb] using h

theorem Tryd.builtH : Tryd.prog.built 34 [] = some ((List.replicate 32 (0 : UInt8)).map B8).toArray := by kernel_rfl

theorem eql_hashes (w : World) (l m : List UInt8) (h : l.length = 32) (h' : m.length = 32) : (binOp .eql 34 (.agg (l.map B8).toArray) (.agg (m.map B8).toArray)).run Tryd.prog w = .ok (.bool (decide (l = m))) w := by
  obtain ⟨i0, hi, _⟩ := info_parts Tryd.infoU8
  exact run_eql_bytes w 34 5 32 i0 Tryd.underlying34 hi (by kernel_rfl) (by kernel_rfl) Tryd.underlying5 l m h h'

set_option maxHeartbeats 4000000 in
theorem Zero_any (h : List UInt8) (hh : h.length = 32) (w : World) :
    Calls Tryd.prog 10 #[.agg (h.map B8).toArray] w fun e w' => e = .returned (.bool (decide (h = List.replicate 32 0))) ∧ Fr F0 w w' := by
  have E := fun w => eql_hashes w h (List.replicate 32 0) hh (by simp)
  have hz : (h.map B8).toArray.size = 32 := by simp [hh]
  generalize hZ : List.replicate 32 (0 : UInt8) = Z at *
  have hB := Tryd.builtH
  rw [hZ] at hB
  go_enter Tryd.func10, Tryd.ntmps10
  go_wp2_with (first | refine wpList_load_row rfl 34 (.tmp 1) rfl w.heap.size rfl 34 _ (0, 0) _ (heap_alloc_new w _) Tryd.underlying34 rfl (by rw [Tryd.sz32, hz]) ?_ | refine wpList_build_no rfl 34 rfl _ hB ?_)
  go_ret
  exact ⟨rfl, (Fr.refl F0 w).alloc _⟩
end Go.Proofs.YtaobgaoldfeehaaDoor

/- What the row's condition on the table of the cube roots gives. -/
namespace Go.Proofs.YtaobgaoldfeehaaDoor
set_option linter.unusedVariables false
set_option linter.unusedSimpArgs false
open Go.ChangeShapes Go.WideShapes Go.ChangeAt Go.RowKit

abbrev laidC : List (String × DataW Unit) := [("pontage/digest.cubes", Rows.laid_pontage_digest_cubes)]

theorem gCubes : Tryd.prog.globalNamed "pontage/digest.cubes" = some 0 := by kernel_rfl
theorem tCubes : (Tryd.prog.globals[0]?).map (·.type) = some 91 := by kernel_rfl
theorem cubes_data : Rows.laid_pontage_digest_cubes (H := Unit) = .agg (cubesN.map fun n : Nat => .lit (.int .u32 (n : Int))) := by rfl
theorem cubes_wi : ∀ i, i < 64 → wi (cubesL.getD i 0) = ((cubesN.getD i 0 : Nat) : Int) := by decide +kernel

theorem door_met (os : Os) (args : Array Value) : laidMetH Tryd.prog laidC ((World.doorLaid Tryd.prog 400 os).forCall (fun _ _ => 0) ⟨#[], args, []⟩).memory :=
  laidMetH_of_parts3 (fuel := 8) (laidMet_of_run' 8 (by kernel_rfl) (by kernel_rfl)) (by kernel_rfl) (by kernel_rfl)

theorem Cub.of_laid {W : World} (h : laidMetH Tryd.prog laidC W) : Cub W := by
  rw [MakeChecks.laidMetH_plain _ _ _ (by kernel_rfl)] at h
  obtain ⟨ps, ⟨g0, t0, cs0, f0, p0, q0, hg0, ht0, hv0, hd0, _, _⟩, _, _⟩ := h
  obtain rfl := Option.some.inj (gCubes.symm.trans hg0)
  obtain rfl := Option.some.inj (tCubes.symm.trans ht0)
  intro j hj
  obtain ⟨xs, m, rfl, hx, hlen, hn, hel⟩ := DataW.trod_array Tryd.underlying91 hd0
  have c1 : Tryd.prog.cellsOf 22 = 1 := by kernel_rfl
  have hxj := hel j hj
  rw [c1, Nat.mul_one] at hxj
  have hjx : j < xs.length := by omega
  rw [List.getElem?_eq_getElem hjx] at hxj
  obtain ⟨k, e1, e2, _⟩ := DataW.trod_int Tryd.underlying22 hxj
  simp only [Prod.mk.injEq] at hx
  have hx1 := hx.1
  rw [cubes_data, DataW.agg.injEq] at hx1
  have hk := congrArg (fun l => l[j]?) hx1
  simp only [List.getElem?_map, List.getElem?_eq_getElem hjx, Option.map_some] at hk
  have hcl : j < cubesN.length := by show j < 64; exact hj
  rw [List.getElem?_eq_getElem hcl, Option.map_some, e2] at hk
  have hk2 : (cubesN[j] : Int) = k := by simpa using hk
  rw [World.var?_cell hg0 hv0 j, cubes_wi j hj]
  have hcs : cs0.toList.drop j ≠ [] := by intro e; rw [e] at e1; simp at e1
  have hjl : j < cs0.toList.length := by
    rcases Nat.lt_or_ge j cs0.toList.length with h | h
    · exact h
    · exact absurd (List.drop_eq_nil_of_le h) hcs
  rw [List.drop_eq_getElem_cons hjl] at e1
  simp only [List.take_succ_cons, List.take_zero, List.cons.injEq, and_true] at e1
  rw [show cubesN.getD j 0 = cubesN[j] by simp [List.getD, List.getElem?_eq_getElem hcl], hk2, ← e1]
  simp at hjl
  simp [hjl]
end Go.Proofs.YtaobgaoldfeehaaDoor
