import Derived.Test.YtohckefafbhooaaGreatF17
import Derived.Test.YtohckefafbhooaaGreatF33
import Derived.Test.YtohckefafbhooaaGreatF2
import Derived.Test.YtohckefafbhooaaGreatF34
import Derived.Deep.Cut
set_option maxRecDepth 100000
set_option maxHeartbeats 64000000
namespace Go.Proofs.YtohckefafbhooaaGreat
set_option maxRecDepth 100000
set_option linter.unusedVariables false
set_option linter.unusedSimpArgs false
open Go.RowKit
attribute [-go_sem] cell_at
def buildRV (parts : Array (Nat × Value)) : Sem Value := Instr.build 111 parts
@[go_sem ↓ high] theorem build_RV (p : Array (Nat × Value)) : Instr.build 111 p = buildRV p := rfl
end Go.Proofs.YtohckefafbhooaaGreat
namespace Go.Proofs.YtohckefafbhooaaGreat
set_option maxRecDepth 100000
set_option linter.unusedVariables false
set_option linter.unusedSimpArgs false
open Go.RowKit
attribute [-go_sem] cell_at
end Go.Proofs.YtohckefafbhooaaGreat
namespace Go.Proofs.YtohckefafbhooaaGreat
set_option maxRecDepth 100000
set_option linter.unusedVariables false
set_option linter.unusedSimpArgs false
open Go.RowKit
attribute [-go_sem] cell_at
def dI (k w v : Int) (a : Nat) (A : List UInt8) : Array Value := (.int .i64 k :: .int .i64 w :: .int .i64 v :: .int .u64 (a : Int) :: (a20 A).map B8).toArray
def usC : Array Value := #[.int .u64 2000,.int .u64 1500,.int .u64 1200,.int .u64 100,.int .u64 50,.int .u64 10,.int .u64 10,.int .u64 10,.int .u64 50,.int .u64 100,.int .u64 10]
def usR (k : Nat) : Nat := match k with
 |0 => 2000 | 1 => 1500 | 2 => 1200 | 3 => 100 | 4 => 50 | 5 => 10 | 6 => 10 | 7 => 10 | 8 => 50 | 9 => 100 | _ => 10
theorem Tryz.szBRules : (Tryz.prog.info? 38).map (·.size) = some 11 := by kernel_rfl
@[go_sem ↓ high] theorem load_brules (p : Value) : Instr.loadAt 38 p = loadRowAt 38 p := rfl
@[go_sem ↓ high] theorem store_brules (p v : Value) : Instr.storeAt 38 p v = storeRowAt 38 p v := rfl
@[go_sem ↓ high] theorem load_rrules (p : Value) : Instr.loadAt 42 p = loadRowAt 42 p := rfl
@[go_sem ↓ high] theorem store_rrules (p v : Value) : Instr.storeAt 42 p v = storeRowAt 42 p v := rfl
@[go_sem] theorem run_store_brules (w : World) (g : Nat) (cells : Array Value) : (storeRowAt 38 (.pointer (some ⟨g,0,none⟩)) (.agg cells)).run Tryz.prog w = rowIn Tryz.prog 38 (.pointer (some ⟨g,0,none⟩)) cells g w 11 w.heap[g]? :=
 run_storeRowAt w _ g 11 cells Tryz.szBRules
def buildBR (parts : Array (Nat × Value)) : Sem Value := Instr.build 38 parts
@[go_sem ↓ high] theorem build_BR (p : Array (Nat × Value)) : Instr.build 38 p = buildBR p := rfl
theorem usC_one : rowOne usC := by unfold rowOne; kernel_rfl
theorem usual20_any (w : World) : Calls Tryz.prog 9 #[] w fun e w' => e = .returned (.agg usC) ∧ Fr F0 w w' := by
 have hb : ∀ W,(buildBR #[(0,.agg #[.int .u64 2000,.int .u64 1500,.int .u64 1200]),(1,.agg #[.int .u64 100,.int .u64 50]),(2,.int .u64 10),(3,.int .u64 10),(4,.int .u64 10),(5,.int .u64 50),(6,.int .u64 100),(7,.int .u64 10)]).run Tryz.prog W = .ok (.agg usC) W := fun W => run_build W _ _ _ (by kernel_rfl)
 have oS := usC_one
 have sz : usC.size = 11 := rfl
 go_enter Tryz.func9,Tryz.ntmps9
 go_upto_region 1 with fail
 refine wp_new fun W1 N => ?_
 have n1 := N.new
 have f1 := N.fr
 clear N
 obtain ⟨g,hg⟩ : ∃ g,w.heap.size = g := ⟨_,rfl⟩
 rw [hg] at n1 ⊢
 have HF := Lib.hid (And.intro f1 (show w.heap.size ≤ g by omega))
 clear f1 hg
 go_wp2_with fail
 refine bodyPost_ret (results_cell_row rfl _ _ g _ _ _ _ rfl (by rw [heap_setRow_at,n1]; rfl) Tryz.underlying38 rfl (by rw [Tryz.szBRules]; rfl)) rfl ?_
 exact ⟨rfl,HF.out.1.setRow (fun h => by have : g < w.heap.size := h; have := HF.out.2; omega) _⟩
end Go.Proofs.YtohckefafbhooaaGreat
