import Derived.Test.YtohckefafbhooaaGreatN17
import Derived.Test.YtohckefafbhooaaGreatN33
import Derived.Test.YtohckefafbhooaaGreatN2
import Derived.Test.YtohckefafbhooaaGreatN34
import Derived.Deep.Cut
set_option maxRecDepth 100000
set_option maxHeartbeats 64000000
namespace Go.Proofs.YtohckefafbhooaaGreat
set_option maxRecDepth 100000
set_option linter.unusedVariables false
set_option linter.unusedSimpArgs false
open Go.RowKit
attribute [-go_sem] cell_at
def buildRV (parts : Array (Nat × Value)) : Sem Value := Instr.build 111 parts
@[go_sem ↓ high] theorem build_RV (p : Array (Nat × Value)) : Instr.build 111 p = buildRV p := rfl
theorem ld_addr {W : World} {b o : Nat} {C : List Value} {t : TypeId} {A : List UInt8} (h : W.heap[b]? = some (.cells C.toArray t (0,0))) (hC : ∀ j,j < 20 → C[o + j]? = (A.map B8)[j]?) (hA : A.length = 20) :
  (loadRowAt 24 (.pointer (some ⟨b,o,none⟩))).run Tryz.prog W = .ok (.agg (A.map B8).toArray) W := by
 refine run_loadAt_mid (P := Tryz.prog) W b o 24 (A.map B8) _ (fun j u hj => ?_) Tryz.underlying24 rfl (by rw [Tryz.szA20b,List.length_map,hA])
 have hj' : j < 20 := by have := (List.getElem?_eq_some_iff.1 hj).1; rw [List.length_map,hA] at this; exact this
 rw [cell_at,h,cellAt_cells,List.getElem?_toArray,hC j hj']
 exact hj
theorem ld_deed {W : World} {g : Nat} {d : Dd} (h : W.heap[g]? = some (.cells (dC d) 26 (0,0))) : (loadRowAt 24 (.pointer (some ⟨g,4,none⟩))).run Tryz.prog W = .ok (.agg ((a20 d.addr).map B8).toArray) W :=
 ld_addr h (fun j hj => by rw [Nat.add_comm]; rfl) (a20_len _)
end Go.Proofs.YtohckefafbhooaaGreat
namespace Go.Proofs.YtohckefafbhooaaGreat
set_option maxRecDepth 100000
set_option linter.unusedVariables false
set_option linter.unusedSimpArgs false
open Go.RowKit
attribute [-go_sem] cell_at
end Go.Proofs.YtohckefafbhooaaGreat
namespace Go.Proofs.YtohckefafbhooaaGreat
set_option maxRecDepth 100000
set_option linter.unusedVariables false
set_option linter.unusedSimpArgs false
open Go.RowKit
attribute [-go_sem] cell_at
def dI (k w v : Int) (a : Nat) (A : List UInt8) : Array Value := (.int .i64 k :: .int .i64 w :: .int .i64 v :: .int .u64 (a : Int) :: (a20 A).map B8).toArray
theorem dI_size (k w v : Int) (a : Nat) (A : List UInt8) : (dI k w v a A).size = 24 := by unfold dI; simp [a20_len]
theorem dI_one (k w v : Int) (a : Nat) (A : List UInt8) : rowOne (dI k w v a A) := by
 unfold rowOne
 rw [Array.all_eq_true_iff_forall_mem]
 intro u hu
 unfold dI at hu
 simp only [List.mem_toArray,List.mem_cons,List.mem_map] at hu
 rcases hu with rfl | rfl | rfl | rfl | ⟨b,_,rfl⟩ <;> rfl
theorem dI_cell {W : World} {g : Nat} {k w v : Int} {a : Nat} {A : List UInt8} (h : W.heap[g]? = some (.cells (dI k w v a A) 26 (0,0))) :
  W.cell? ⟨g,0,none⟩ = some (.int .i64 k) ∧ W.cell? ⟨g,1,none⟩ = some (.int .i64 w) ∧ W.cell? ⟨g,2,none⟩ = some (.int .i64 v) ∧ W.cell? ⟨g,3,none⟩ = some (.int .u64 (a : Int)) := by
 refine ⟨?_,?_,?_,?_⟩ <;> simp [World.cell?,h,dI]
def nrN (w : Int) : Nat := (w % 256).toNat
theorem nrN_lt (w : Int) : nrN w < 256 := by unfold nrN; omega
theorem nr_wrap (w : Int) : IntKind.u64.wrap w % 256 = (nrN w : Int) := by
 unfold nrN
 have : IntKind.u64.wrap w = w % 18446744073709551616 := by unfold IntKind.wrap; rfl
 rw [this]
 omega
theorem nr_tmod (w : Int) : (IntKind.u64.wrap w).tmod 256 = (nrN w : Int) := by
 rw [← nr_wrap w]
 have : IntKind.u64.wrap w = w % 18446744073709551616 := by unfold IntKind.wrap; rfl
 rw [this]
 exact Int.tmod_eq_emod_of_nonneg (Int.emod_nonneg _ (by decide))
theorem near20_any (k x y : Int) (a : Nat) (A : List UInt8) (w : World) : Calls Tryz.prog 11 #[.agg (dI k x y a A)] w fun e w' => e = .returned (.agg (dI k (nrN x) (nrN y) a A)) ∧ Fr F0 w w' := by
 have k1 := nr_tmod x
 have k2 := nr_tmod y
 have k3 : wrap64 (nrN x : Int) = (nrN x : Int) := IntWalk.wrap64_in _ (by have := nrN_lt x; omega)
 have k4 : wrap64 (nrN y : Int) = (nrN y : Int) := IntWalk.wrap64_in _ (by have := nrN_lt y; omega)
 generalize nrN x = nx at *
 generalize nrN y = ny at *
 go_enter Tryz.func11,Tryz.ntmps11
 go_upto_region 1 with fail
 refine wp_new fun W2 N => ?_
 have n1 := N.old (heap_alloc_new w (.cells (dI k x y a A) 26))
 have n2 := N.new
 have f2 : Fr F0 w W2 := ((Fr.refl F0 w).alloc _).trans' N.fr
 rw [World.size_alloc] at n2
 clear N
 obtain ⟨Z,zZ,n3⟩ : ∃ Z : Array Value,Z.size = 24 ∧ W2.heap[w.heap.size + 1]? = some (.cells Z 26 (0,0)) := ⟨_,rfl,n2⟩
 clear n2
 obtain ⟨g,hg⟩ : ∃ g,w.heap.size = g := ⟨_,rfl⟩
 rw [hg] at n1 n3 ⊢
 obtain ⟨g1,hg1⟩ : ∃ h,g + 1 = h := ⟨_,rfl⟩
 rw [hg1] at n3 ⊢
 obtain ⟨c0,c1,c2,c3⟩ := dI_cell n1
 have z1 : Obj.frozenAt 1 W2.heap[g]? = false := by rw [n1]; rfl
 have z2 : Obj.frozenAt 2 W2.heap[g]? = false := by rw [n1]; rfl
 go_upto_region 2 with fail
 have q1 : ((W2.setCell ⟨g,1,none⟩ (.int .i64 (nx : Int))).setCell ⟨g,2,none⟩ (.int .i64 (ny : Int))).heap[g]? = some (.cells (dI k nx ny a A) 26 (0,0)) := by
  rw [heap_setCell_at,heap_setCell_at,n1]
  simp [dI,Obj.withCell]
 have q2 : ((W2.setCell ⟨g,1,none⟩ (.int .i64 (nx : Int))).setCell ⟨g,2,none⟩ (.int .i64 (ny : Int))).heap[g1]? = some (.cells Z 26 (0,0)) := by
  rw [heap_setCell_ne' _ _ _ _ _ (by omega),heap_setCell_ne' _ _ _ _ _ (by omega)]
  exact n3
 have F3 : Fr F0 w ((W2.setCell ⟨g,1,none⟩ (.int .i64 (nx : Int))).setCell ⟨g,2,none⟩ (.int .i64 (ny : Int))) := (f2.setCell (fun h => by have : g < w.heap.size := h; omega) _).setCell (fun h => by have : g < w.heap.size := h; omega) _
 generalize (W2.setCell ⟨g,1,none⟩ (.int .i64 (nx : Int))).setCell ⟨g,2,none⟩ (.int .i64 (ny : Int)) = W3 at *
 have oS := dI_one k nx ny a A
 have sz := dI_size k nx ny a A
 have HF := Lib.hid (And.intro F3 (show w.heap.size ≤ g1 by omega))
 clear n1 c0 c1 c2 c3 z1 z2 f2 F3 k1 k2 k3 k4 hg hg1
 go_wp2_with fail
 refine bodyPost_ret (results_cell_row rfl _ _ g1 _ _ _ _ rfl (by rw [heap_setRow_at,q2]; rfl) Tryz.underlying26 rfl (by rw [Tryz.szDeed20,sz])) rfl ?_
 exact ⟨rfl,HF.out.1.setRow (fun h => by have : g1 < w.heap.size := h; have := HF.out.2; omega) _⟩
def usC : Array Value := #[.int .u64 2000,.int .u64 1500,.int .u64 1200,.int .u64 100,.int .u64 50,.int .u64 10,.int .u64 10,.int .u64 10,.int .u64 50,.int .u64 100,.int .u64 10]
def usR (k : Nat) : Nat := match k with
 |0 => 2000 | 1 => 1500 | 2 => 1200 | 3 => 100 | 4 => 50 | 5 => 10 | 6 => 10 | 7 => 10 | 8 => 50 | 9 => 100 | _ => 10
theorem Tryz.szBRules : (Tryz.prog.info? 38).map (·.size) = some 11 := by kernel_rfl
@[go_sem ↓ high] theorem load_brules (p : Value) : Instr.loadAt 38 p = loadRowAt 38 p := rfl
@[go_sem ↓ high] theorem store_brules (p v : Value) : Instr.storeAt 38 p v = storeRowAt 38 p v := rfl
@[go_sem ↓ high] theorem load_rrules (p : Value) : Instr.loadAt 42 p = loadRowAt 42 p := rfl
@[go_sem ↓ high] theorem store_rrules (p v : Value) : Instr.storeAt 42 p v = storeRowAt 42 p v := rfl
@[go_sem] theorem run_store_brules (w : World) (g : Nat) (cells : Array Value) : (storeRowAt 38 (.pointer (some ⟨g,0,none⟩)) (.agg cells)).run Tryz.prog w = rowIn Tryz.prog 38 (.pointer (some ⟨g,0,none⟩)) cells g w 11 w.heap[g]? :=
 run_storeRowAt w _ g 11 cells Tryz.szBRules
def buildBR (parts : Array (Nat × Value)) : Sem Value := Instr.build 38 parts
@[go_sem ↓ high] theorem build_BR (p : Array (Nat × Value)) : Instr.build 38 p = buildBR p := rfl
theorem usC_one : rowOne usC := by unfold rowOne; kernel_rfl
theorem usual20_any (w : World) : Calls Tryz.prog 9 #[] w fun e w' => e = .returned (.agg usC) ∧ Fr F0 w w' := by
 have hb : ∀ W,(buildBR #[(0,.agg #[.int .u64 2000,.int .u64 1500,.int .u64 1200]),(1,.agg #[.int .u64 100,.int .u64 50]),(2,.int .u64 10),(3,.int .u64 10),(4,.int .u64 10),(5,.int .u64 50),(6,.int .u64 100),(7,.int .u64 10)]).run Tryz.prog W = .ok (.agg usC) W := fun W => run_build W _ _ _ (by kernel_rfl)
 have oS := usC_one
 have sz : usC.size = 11 := rfl
 go_enter Tryz.func9,Tryz.ntmps9
 go_upto_region 1 with fail
 refine wp_new fun W1 N => ?_
 have n1 := N.new
 have f1 := N.fr
 clear N
 obtain ⟨g,hg⟩ : ∃ g,w.heap.size = g := ⟨_,rfl⟩
 rw [hg] at n1 ⊢
 have HF := Lib.hid (And.intro f1 (show w.heap.size ≤ g by omega))
 clear f1 hg
 go_wp2_with fail
 refine bodyPost_ret (results_cell_row rfl _ _ g _ _ _ _ rfl (by rw [heap_setRow_at,n1]; rfl) Tryz.underlying38 rfl (by rw [Tryz.szBRules]; rfl)) rfl ?_
 exact ⟨rfl,HF.out.1.setRow (fun h => by have : g < w.heap.size := h; have := HF.out.2; omega) _⟩
end Go.Proofs.YtohckefafbhooaaGreat
