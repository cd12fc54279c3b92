import Derived.Test.YtohckefafbhooaaGreatR35
set_option maxRecDepth 100000
set_option maxHeartbeats 64000000
namespace Go.Proofs.YtohckefafbhooaaGreat
set_option linter.unusedVariables false
set_option linter.unusedSimpArgs false
open Go.RowKit
attribute [-go_sem] gq
def awh (parts : Array (Nat × Value)) : Sem Value := Instr.build 42 parts
@[go_sem ↓ high] theorem build_Rr (p : Array (Nat × Value)) : Instr.build 42 p = awh p := rfl
theorem apd (w : World) : (awh #[(0,.int .u64 2000),(1,.int .u64 1500),(2,.int .u64 1200),(3,.int .u64 100),(4,.int .u64 50),(5,.int .u64 10),(6,.int .u64 10),(7,.int .u64 10),(8,.int .u64 50),(9,.int .u64 100),(10,.int .u64 10)]).run Tryz.prog w = .ok (.agg usC) w := run_build w _ _ _ (by kernel_rfl)
theorem alv (w : World) : Calls Tryz.prog 10 #[.agg usC] w fun e w' => e = .returned (.agg usC) ∧ Fr F0 w w' := by
 have oS := aoo
 have sz : usC.size = 11 := rfl
 go_enter Tryz.func10,Tryz.ntmps10
 go_upto_region 1 with fail
 refine eu fun W2 N => ?_
 have n1 := N.old (heap_alloc_new w (.cells usC 38))
 have n2 := N.new
 have f2 : Fr F0 w W2 := ((Fr.refl F0 w).alloc _).trans' N.fr
 rw [World.size_alloc] at n2
 clear N
 obtain ⟨Z,zZ,n3⟩ : ∃ Z : Array Value,Z.size = 11 ∧ W2.heap[w.heap.size + 1]? = some (.cells Z 42 (0,0)) := ⟨_,rfl,n2⟩
 clear n2
 obtain ⟨g,hg⟩ : ∃ g,w.heap.size = g := ⟨_,rfl⟩
 rw [hg] at n1 n3 ⊢
 obtain ⟨g1,hg1⟩ : ∃ h,g + 1 = h := ⟨_,rfl⟩
 rw [hg1] at n3 ⊢
 have c : ∀ k v,usC[k]? = some v → W2.cell? ⟨g,k,none⟩ = some v := fun k v h => by rw [gq,n1,jg]; exact h
 have c0 : W2.cell? ⟨g,0,none⟩ = some (.int .u64 2000) := c 0 _ rfl
 have c1 : W2.cell? ⟨g,1,none⟩ = some (.int .u64 1500) := c 1 _ rfl
 have c2 : W2.cell? ⟨g,2,none⟩ = some (.int .u64 1200) := c 2 _ rfl
 have c3 : W2.cell? ⟨g,3,none⟩ = some (.int .u64 100) := c 3 _ rfl
 have c4 : W2.cell? ⟨g,4,none⟩ = some (.int .u64 50) := c 4 _ rfl
 have c5 : W2.cell? ⟨g,5,none⟩ = some (.int .u64 10) := c 5 _ rfl
 have c6 : W2.cell? ⟨g,6,none⟩ = some (.int .u64 10) := c 6 _ rfl
 have c7 : W2.cell? ⟨g,7,none⟩ = some (.int .u64 10) := c 7 _ rfl
 have c8 : W2.cell? ⟨g,8,none⟩ = some (.int .u64 50) := c 8 _ rfl
 have c9 : W2.cell? ⟨g,9,none⟩ = some (.int .u64 100) := c 9 _ rfl
 have c10 : W2.cell? ⟨g,10,none⟩ = some (.int .u64 10) := c 10 _ rfl
 have HF := Lib.hid (And.intro f2 (show w.heap.size ≤ g1 by omega))
 have hb := apd
 clear f2 hg hg1 c n1
 go_wp2_with fail
 have hq : (W2.setRow g1 usC).heap[g1]? = some (.cells usC 42 (0,0)) := by rw [bf,n3]; rfl
 refine bodyPost_ret (results_cell_row rfl _ _ g1 _ _ _ _ rfl hq Tryz.underlying42 rfl (by rw [Tryz.szRRules20]; rfl)) rfl ?_
 exact ⟨rfl,HF.out.1.setRow (fun h => by have : g1 < w.heap.size := h; have := HF.out.2; omega) _⟩
end Go.Proofs.YtohckefafbhooaaGreat
