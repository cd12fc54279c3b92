import Derived.Test.YtedffdlkmpmdlaaGreatDoorFz14
import Derived.Test.YtedffdlkmpmdlaaGreatDoorFz3
import Derived.ProofKit
import Derived.LaidMore
import Derived.OpenShut
import Derived.Stop.Joined
import Derived.MakeChecks
import Derived.FnData
set_option maxRecDepth 100000
set_option maxHeartbeats 64000000
namespace Go.Proofs.YtedffdlkmpmdlaaGreatDoor
set_option maxRecDepth 100000
set_option linter.unusedVariables false
set_option linter.unusedSimpArgs false
open Go.RowKit
theorem Double_any (a : Option Addr) (n c : Nat) (bs : List UInt8) (hn : n = bs.length) (hl : bs.length ≤ 140737488355000) (w : World) (h : Bs w a c bs) (hcub : Cub w) :
  Calls Tryz.prog 50 #[.slice a n c] w fun e w' => e = .returned (.agg ((sha2 bs).map B8).toArray) ∧ Fr F0 w w' := by
 subst hn
 have hz1 : ((sha bs).map B8).toArray.size = 32 := by simp [sha_length]
 have hz2 : ((sha2 bs).map B8).toArray.size = 32 := by simp [sha2,sha_length]
 have HB := Lib.hid h
 have HC := Lib.hid hcub
 clear h hcub
 go_enter Tryz.func50,Tryz.ntmps50
 go_wp2_with fail
 refine (Sum_any a _ c bs rfl hl _ (Sl.fr HB.out ((Fr.refl F0 w).alloc _) fun _ _ f => f) (HC.out.fr ((Fr.refl F0 w).alloc _) fun f => f)).mono ?_
 rintro e w1 ⟨rfl,h1⟩
 have h1s := h1.size
 simp only [World.size_alloc] at h1s
 go_wp2_with (refine wpList_store_row rfl 25 (.tmp 3) (.tmp 5) rfl w1.heap.size _ rfl rfl 25 _ (heap_alloc_new w1 _) (by rw [Tryz.sz32,hz1]) (by rw [hz1]; rfl) (oneB_map _) ?_)
 generalize hY : w1.heap.size = Y at *
 have hF2 : Fr F0 w ((w1.alloc (.cells #[.int .u8 0,.int .u8 0,.int .u8 0,.int .u8 0,.int .u8 0,.int .u8 0,.int .u8 0,.int .u8 0,.int .u8 0,.int .u8 0,.int .u8 0,.int .u8 0,.int .u8 0,.int .u8 0,.int .u8 0,.int .u8 0,.int .u8 0,.int .u8 0,.int .u8 0,.int .u8 0,.int .u8 0,.int .u8 0,.int .u8 0,.int .u8 0,.int .u8 0,.int .u8 0,.int .u8 0,.int .u8 0,.int .u8 0,.int .u8 0,.int .u8 0,.int .u8 0] 25)).setRow Y ((sha bs).map B8).toArray) := ((((Fr.refl F0 w).alloc _).trans' h1).alloc _).setRow (fun h => by omega) _
 have hY2 := setRow_heap _ _ _ ((sha bs).map B8).toArray _ _ (show (w1.alloc (.cells #[.int .u8 0,.int .u8 0,.int .u8 0,.int .u8 0,.int .u8 0,.int .u8 0,.int .u8 0,.int .u8 0,.int .u8 0,.int .u8 0,.int .u8 0,.int .u8 0,.int .u8 0,.int .u8 0,.int .u8 0,.int .u8 0,.int .u8 0,.int .u8 0,.int .u8 0,.int .u8 0,.int .u8 0,.int .u8 0,.int .u8 0,.int .u8 0,.int .u8 0,.int .u8 0,.int .u8 0,.int .u8 0,.int .u8 0,.int .u8 0,.int .u8 0,.int .u8 0] 25)).heap[Y]? = some (.cells _ 25 (0,0)) by rw [← hY]; exact heap_alloc_new w1 _)
 have hR : ∃ cs,((w1.alloc (.cells #[.int .u8 0,.int .u8 0,.int .u8 0,.int .u8 0,.int .u8 0,.int .u8 0,.int .u8 0,.int .u8 0,.int .u8 0,.int .u8 0,.int .u8 0,.int .u8 0,.int .u8 0,.int .u8 0,.int .u8 0,.int .u8 0,.int .u8 0,.int .u8 0,.int .u8 0,.int .u8 0,.int .u8 0,.int .u8 0,.int .u8 0,.int .u8 0,.int .u8 0,.int .u8 0,.int .u8 0,.int .u8 0,.int .u8 0,.int .u8 0,.int .u8 0,.int .u8 0] 25)).setRow Y ((sha bs).map B8).toArray).heap[w.heap.size]? = some (.cells cs 25 (0,0)) ∧ cs.size = 32 := ⟨_,by rw [setRow_other _ _ _ _ (by omega),heap_alloc_old _ _ (by omega)]; exact h1.keeps (fun f => f) (heap_alloc_new w _),rfl⟩
 generalize (w1.alloc (.cells #[.int .u8 0,.int .u8 0,.int .u8 0,.int .u8 0,.int .u8 0,.int .u8 0,.int .u8 0,.int .u8 0,.int .u8 0,.int .u8 0,.int .u8 0,.int .u8 0,.int .u8 0,.int .u8 0,.int .u8 0,.int .u8 0,.int .u8 0,.int .u8 0,.int .u8 0,.int .u8 0,.int .u8 0,.int .u8 0,.int .u8 0,.int .u8 0,.int .u8 0,.int .u8 0,.int .u8 0,.int .u8 0,.int .u8 0,.int .u8 0,.int .u8 0,.int .u8 0] 25)).setRow Y ((sha bs).map B8).toArray = w2 at *
 obtain ⟨cs,hR,hRz⟩ := hR
 have hx := Bs.of_row hY2 (by rw [sha_length]; unfold maxLen; omega)
 rw [sha_length] at hx
 refine (Sum_any _ 32 32 (sha bs) (sha_length _).symm (by rw [sha_length]; omega) _ hx (HC.out.fr hF2 fun f => f)).mono ?_
 rintro e w3 ⟨rfl,h3⟩
 go_wp2_with (refine wpList_store_row rfl 25 (.tmp 2) (.tmp 7) rfl w.heap.size _ rfl rfl 25 _ (h3.keeps (fun f => f) hR) (by rw [Tryz.sz32]; exact congrArg some hz2.symm) (by rw [hRz]; exact hz2.symm) (oneB_map _) ?_)
 refine bodyPost_ret (results_cell_row rfl _ _ w.heap.size _ _ _ _ rfl (setRow_heap _ _ _ _ _ _ (h3.keeps (fun f => f) hR)) Tryz.underlying25 rfl (by rw [Tryz.sz32]; exact congrArg some hz2.symm)) rfl ⟨rfl,?_⟩
 exact (hF2.trans' h3).setRow (fun h => by omega) _
end Go.Proofs.YtedffdlkmpmdlaaGreatDoor
namespace Go.Proofs.YtedffdlkmpmdlaaGreatDoor
set_option maxRecDepth 100000
set_option linter.unusedVariables false
set_option linter.unusedSimpArgs false
open Go.ChangeShapes Go.WideShapes Go.ChangeAt Go.RowKit
abbrev laidC : List (String × DataW Unit) := [("pontage/digest.cubes", Rows.laid_pontage_digest_cubes)]
theorem gCubes : Tryz.prog.globalNamed "pontage/digest.cubes" = some 0 := by kernel_rfl
theorem tCubes : (Tryz.prog.globals[0]?).map (·.type) = some 174 := by kernel_rfl
theorem cubes_data : Rows.laid_pontage_digest_cubes (H := Unit) = .agg (cubesN.map fun n : Nat => .lit (.int .u32 (n : Int))) := by rfl
theorem cubes_wi : ∀ i,i < 64 → wi (cubesL.getD i 0) = ((cubesN.getD i 0 : Nat) : Int) := by decide +kernel
theorem door_met (os : Os) (args : Array Value) : laidMetH Tryz.prog laidC ((World.doorLaid Tryz.prog 400 os).forCall (fun _ _ => 0) ⟨#[],args,[]⟩).memory :=
 laidMetH_of_parts3 (fuel := 8) (laidMet_of_run' 8 (by kernel_rfl) (by kernel_rfl)) (by kernel_rfl) (by kernel_rfl)
theorem Cub.of_laid {W : World} (h : laidMetH Tryz.prog laidC W) : Cub W := by
 rw [MakeChecks.laidMetH_plain _ _ _ (by kernel_rfl)] at h
 obtain ⟨ps,⟨g0,t0,cs0,f0,p0,q0,hg0,ht0,hv0,hd0,_,_⟩,_,_⟩ := h
 obtain rfl := Option.some.inj (gCubes.symm.trans hg0)
 obtain rfl := Option.some.inj (tCubes.symm.trans ht0)
 intro j hj
 obtain ⟨xs,m,rfl,hx,hlen,hn,hel⟩ := DataW.trod_array Tryz.underlying174 hd0
 have c1 : Tryz.prog.cellsOf 23 = 1 := by kernel_rfl
 have hxj := hel j hj
 rw [c1,Nat.mul_one] at hxj
 have hjx : j < xs.length := by omega
 rw [List.getElem?_eq_getElem hjx] at hxj
 obtain ⟨k,e1,e2,_⟩ := DataW.trod_int Tryz.underlying23 hxj
 simp only [Prod.mk.injEq] at hx
 have hx1 := hx.1
 rw [cubes_data,DataW.agg.injEq] at hx1
 have hk := congrArg (fun l => l[j]?) hx1
 simp only [List.getElem?_map,List.getElem?_eq_getElem hjx,Option.map_some] at hk
 have hcl : j < cubesN.length := by show j < 64; exact hj
 rw [List.getElem?_eq_getElem hcl,Option.map_some,e2] at hk
 have hk2 : (cubesN[j] : Int) = k := by simpa using hk
 rw [World.var?_cell hg0 hv0 j,cubes_wi j hj]
 have hcs : cs0.toList.drop j ≠ [] := by intro e; rw [e] at e1; simp at e1
 have hjl : j < cs0.toList.length := by
  rcases Nat.lt_or_ge j cs0.toList.length with h | h
  ·exact h
  ·exact absurd (List.drop_eq_nil_of_le h) hcs
 rw [List.drop_eq_getElem_cons hjl] at e1
 simp only [List.take_succ_cons,List.take_zero,List.cons.injEq,and_true] at e1
 rw [show cubesN.getD j 0 = cubesN[j] by simp [List.getD,List.getElem?_eq_getElem hcl],hk2,← e1]
 simp at hjl
 simp [hjl]
end Go.Proofs.YtedffdlkmpmdlaaGreatDoor
