import Derived.Test.YtohckefafbhooaaGreatF2
import Derived.Deep.RegionWith
import Derived.Test.YtohckefafbhooaaGreatF1
import Derived.OrdersHeld
import Derived.Deep.RegionHeld3
import Derived.Laws.Externs
import Derived.Laws.BitsAllLaws
import Derived.OwnWalk
import Derived.Laws.OwnMore
set_option maxRecDepth 100000
set_option maxHeartbeats 64000000
namespace Go.Proofs.YtohckefafbhooaaGreat
set_option maxRecDepth 100000
set_option linter.unusedVariables false
set_option linter.unusedSimpArgs false
open Go.RowKit
theorem Tryz.szWide : (Tryz.prog.info? 134).map (·.size) = some 4 := by kernel_rfl
@[go_sem ↓ high] theorem load_wide (p : Value) : Instr.loadAt 134 p = loadRowAt 134 p := rfl
@[go_sem ↓ high] theorem load_arr4 (p : Value) : Instr.loadAt 133 p = loadRowAt 133 p := rfl
@[go_sem ↓ high] theorem store_wide (p v : Value) : Instr.storeAt 134 p v = storeRowAt 134 p v := rfl
@[go_sem ↓ high] theorem store_arr4 (p v : Value) : Instr.storeAt 133 p v = storeRowAt 133 p v := rfl
@[go_sem] theorem run_load_wide (w : World) (g : Nat) : (loadRowAt 134 (.pointer (some ⟨g,0,none⟩))).run Tryz.prog w = rowOut Tryz.prog 134 (.pointer (some ⟨g,0,none⟩)) w 4 w.heap[g]? :=
 run_loadRowAt w _ g 4 _ Tryz.underlying134 rfl Tryz.szWide
@[go_sem] theorem run_store_wide (w : World) (g : Nat) (cells : Array Value) : (storeRowAt 134 (.pointer (some ⟨g,0,none⟩)) (.agg cells)).run Tryz.prog w = rowIn Tryz.prog 134 (.pointer (some ⟨g,0,none⟩)) cells g w 4 w.heap[g]? :=
 run_storeRowAt w _ g 4 cells Tryz.szWide
theorem heap_new3 (w : World) (A B C : Obj) : (((w.alloc A).alloc B).alloc C).heap[w.heap.size + 1 + 1]? = some C := by
 have := heap_alloc_new ((w.alloc A).alloc B) C
 simpa using this
theorem heap_new4 (w : World) (A B C D : Obj) : ((((w.alloc A).alloc B).alloc C).alloc D).heap[w.heap.size + 1 + 1 + 1]? = some D := by
 have := heap_alloc_new (((w.alloc A).alloc B).alloc C) D
 simpa using this
attribute [simp high] heap_alloc2_new heap_new3 heap_new4 rowOut_cells rowIn_cells heap_alloc_new heap_alloc_old heap_setRow_at heap_setRow_ne heap_setCell_at heap_setCell_ne' withRow_cells withCell_cells cellAt_cells frozenAt_cells heap_drew' rowN_size rowN_rowOne rowN_get rowN_getElem
attribute [go_sem low] cell_at frozen_at
theorem Tryz.szU64 : (Tryz.prog.info? 23).map (·.size) = some 1 := by kernel_rfl
@[simp high] theorem run_index_wide (w : World) (x i : Nat) (k : IntKind) (h : i < 4) : (Instr.index 134 (.agg (rowN .u64 64 4 x)) (.int k (i : Int))).run Tryz.prog w = .ok (.int .u64 (dgt 64 x i : Nat)) w :=
 run_index_row w _ _ 4 _ k i _ Tryz.underlying134 Tryz.underlying23 rfl Tryz.szU64 _ h (rowN_get _ _ _ _ _ h)
@[simp high] theorem run_index_wide0 (w : World) (x : Nat) (k : IntKind) : (Instr.index 134 (.agg (rowN .u64 64 4 x)) (.int k 0)).run Tryz.prog w = .ok (.int .u64 (dgt 64 x 0 : Nat)) w := run_index_wide w x 0 k (by omega)
@[simp high] theorem putw_zero0 (v : Nat) : putw 64 0 0 v = v := by rw [putw_new _ _ _ _ (by simp)]; simp
@[simp high] theorem putw_one (x y : Nat) (h : x < 2 ^ 64) : putw 64 x 1 y = x + 2 ^ 64 * y := putw_new _ _ _ _ h
abbrev WR (x : Nat) : Array Value := rowN .u64 64 4 x
abbrev WV (x : Nat) : Value := .agg (rowN .u64 64 4 x)
theorem WR_zero : rowN .u64 64 4 0 = #[.int .u64 0,.int .u64 0,.int .u64 0,.int .u64 0] := by
 simp [rowN,dgt,List.range_succ]
@[go_sem high] theorem zero4 : (#[.int .u64 0,.int .u64 0,.int .u64 0,.int .u64 0] : Array Value) = rowN .u64 64 4 0 := WR_zero.symm
@[go_sem high] theorem set_word (z i v : Nat) (hv : v < 2 ^ 64) : (rowN .u64 64 4 z).setIfInBounds i (.int .u64 (v : Int)) = rowN .u64 64 4 (putw 64 z i v) := rowN_set _ _ _ _ _ _ hv
theorem wp_of_world {P : Program} {c : Code} {Q : Exit → Act → World → Prop} {a : Act} {w : World} (W : World) (h : W = w) (k : Code.wp P c Q a W) : Code.wp P c Q a w := h ▸ k
theorem Calls.of_world {P : Program} {f : FuncId} {args : Array Value} {w : World} {R : Ending → World → Prop} (W : World) (h : W = w) (k : Calls P f args W R) : Calls P f args w R := h ▸ k
end Go.Proofs.YtohckefafbhooaaGreat
namespace Go.Proofs.YtohckefafbhooaaGreat
set_option maxRecDepth 100000
set_option linter.unusedVariables false
set_option linter.unusedSimpArgs false
open Go.RowKit
def sub64Entry : Array Value → Sem Value := fun args => do
 let (x, y, b) ← Extern.MathBitsCarry.three "Sub64" args
 pure (Extern.MathBitsCarry.pair ((x + Extern.MathBitsCarry.m64 - y - b) % Extern.MathBitsCarry.m64) (if x < y + b then 1 else 0))
theorem run_sub64 {P : Program} (x y b : Nat) (hb : b ≤ 1) (w : World) :
  (sub64Entry #[.int .u64 x,.int .u64 y,.int .u64 b]).run P w = .ok (.tuple #[.int .u64 (subLo x y b : Nat),.int .u64 (subHi x y b : Nat)]) w := by
 have : b = 0 ∨ b = 1 := by omega
 rcases this with rfl | rfl <;> rfl
theorem run_add64' {P : Program} (x y c : Nat) (hc : c ≤ 1) (w : World) :
  (add64Entry #[.int .u64 x,.int .u64 y,.int .u64 c]).run P w = .ok (.tuple #[.int .u64 (addLo x y c : Nat),.int .u64 (addHi x y c : Nat)]) w := by
 have : c = 0 ∨ c = 1 := by omega
 rcases this with rfl | rfl <;> rfl
@[go_sem] theorem run_Add64 (x y c : Nat) (hc : c ≤ 1) (w : World) :
  (callFunc 127 #[.int .u64 x,.int .u64 y,.int .u64 c]).run Tryz.prog w = .ok (.value (.tuple #[.int .u64 (addLo x y c : Nat),.int .u64 (addHi x y c : Nat)])) w := by
 rw [run_callFunc_extern Tryz.func127 (by kernel_rfl) (by kernel_rfl) (by kernel_rfl) (e := add64Entry) (by kernel_rfl),run_add64' x y c hc]
 rfl
@[go_sem] theorem run_Add64_0 (x y : Nat) (w : World) :
  (callFunc 127 #[.int .u64 x,.int .u64 y,.int .u64 0]).run Tryz.prog w = .ok (.value (.tuple #[.int .u64 (addLo x y 0 : Nat),.int .u64 (addHi x y 0 : Nat)])) w := run_Add64 x y 0 (by omega) w
@[go_sem] theorem run_Sub64 (x y c : Nat) (hc : c ≤ 1) (w : World) :
  (callFunc 161 #[.int .u64 x,.int .u64 y,.int .u64 c]).run Tryz.prog w = .ok (.value (.tuple #[.int .u64 (subLo x y c : Nat),.int .u64 (subHi x y c : Nat)])) w := by
 rw [run_callFunc_extern Tryz.func161 (by kernel_rfl) (by kernel_rfl) (by kernel_rfl) (e := sub64Entry) (by kernel_rfl),run_sub64 x y c hc]
 rfl
theorem bne0 (n : Nat) : ((n : Int) != 0) = (n != 0) := by
 by_cases h : n = 0
 ·subst h; rfl
 ·rw [bne_iff_ne.2 (show (n : Int) ≠ 0 by omega),bne_iff_ne.2 h]
theorem res_row_tmp {P : Program} {fn : Func} {p u : Tmp} {ty : TypeId} (h : fn.results = #[.cell p ty,.tmp u]) (tmps : Array Value) (w : World) (g : Nat) (t : TypeId) (cs : Array Value) (fr : Nat × Nat) (d : TypeDesc)
  (hp : tmps.getD p undef = .pointer (some ⟨g,0,none⟩)) (hg : w.heap[g]? = some (.cells cs t fr))
  (hu : P.underlying ty = some d) (hd : (match d with | .struct _ | .array _ _ => true | _ => false) = true) (hi : (P.info? ty).map (·.size) = some cs.size) :
  (results fn tmps).run P w = .ok (.tuple #[.agg cs,tmps.getD u undef]) w := by
 have hp' : tmps[p]?.getD undef = .pointer (some ⟨g,0,none⟩) := by simpa using hp
 simp [results,h,hp',asAddr,run_loadVar_row w g t ty cs fr d hg hu hd hi]
theorem heap2 (w : World) (A B : Obj) : let W := (w.alloc A).alloc B
  W.heap[w.heap.size]? = some A ∧ W.heap[w.heap.size + 1]? = some B := ⟨heap_alloc2_old _ _ _,heap_alloc2_new _ _ _⟩
theorem heap3 (w : World) (A B C : Obj) : let W := ((w.alloc A).alloc B).alloc C
  W.heap[w.heap.size]? = some A ∧ W.heap[w.heap.size + 1]? = some B ∧ W.heap[w.heap.size + 1 + 1]? = some C := by
 refine ⟨?_,?_,?_⟩
 ·rw [heap_alloc_old _ _ (by first | (simp; done) | (simp; omega))]
  exact (heap2 w A B).1
 ·rw [heap_alloc_old _ _ (by simp)]
  exact (heap2 w A B).2
 ·exact heap_new3 w A B C
theorem heap4 (w : World) (A B C D : Obj) : let W := (((w.alloc A).alloc B).alloc C).alloc D
  W.heap[w.heap.size]? = some A ∧ W.heap[w.heap.size + 1]? = some B ∧ W.heap[w.heap.size + 1 + 1]? = some C ∧ W.heap[w.heap.size + 1 + 1 + 1]? = some D := by
 obtain ⟨h0,h1,h2⟩ := heap3 w A B C
 refine ⟨?_,?_,?_,?_⟩
 ·rw [heap_alloc_old _ _ (by first | (simp; done) | (simp; omega))]; exact h0
 ·rw [heap_alloc_old _ _ (by first | (simp; done) | (simp; omega))]; exact h1
 ·rw [heap_alloc_old _ _ (by simp)]; exact h2
 ·exact heap_new4 w A B C D
theorem row_put {w : World} {g i z v : Nat} {t : TypeId} (h : w.heap[g]? = some (.cells (rowN .u64 64 4 z) t (0,0))) (hz : z < 2 ^ (64 * i)) (hv : v < 2 ^ 64) :
  (w.setCell ⟨g,i,none⟩ (.int .u64 (v : Int))).heap[g]? = some (.cells (rowN .u64 64 4 (z + 2 ^ (64 * i) * v)) t (0,0)) := by
 rw [heap_setCell_at,h,withCell_cells,set_word _ _ _ hv,putw_new _ _ _ _ hz]
theorem wAdd_any (a b : Nat) (ha : a < W256) (hb : b < W256) (w : World) :
  Calls Tryz.prog 93 #[.agg (rowN .u64 64 4 a),.agg (rowN .u64 64 4 b)] w fun e w' => e = .returned (.tuple #[.agg (rowN .u64 64 4 ((a + b) % W256)),.bool (decide (W256 ≤ a + b))]) ∧ Fr F0 w w' := by
 have HA := Lib.hid (adS_all a b ha hb)
 have HC := Lib.hid (adC_all a b ha hb)
 clear ha hb
 go_enter Tryz.func93,Tryz.ntmps93
 go_wp2
 obtain ⟨W1,hW1⟩ : ∃ W1,W1 = (((w.alloc (.cells (rowN .u64 64 4 a) 134)).alloc (.cells (rowN .u64 64 4 b) 134)).alloc (.cells (rowN .u64 64 4 0) 134)).alloc (.cells (rowN .u64 64 4 0) 134) := ⟨_,rfl⟩
 refine wp_of_world W1 hW1 ?_
 have f1 : Fr F0 w W1 := by rw [hW1]; exact ((((Fr.refl F0 w).alloc _).alloc _).alloc _).alloc _
 obtain ⟨r0,r1,r2,r3⟩ := heap4 w (.cells (rowN .u64 64 4 a) 134) (.cells (rowN .u64 64 4 b) 134) (.cells (rowN .u64 64 4 0) 134) (.cells (rowN .u64 64 4 0) 134)
 rw [← hW1] at r0 r1 r2 r3
 clear hW1
 generalize hg0 : w.heap.size = g0 at *
 generalize hg1 : g0 + 1 = g1 at *
 generalize hg2 : g1 + 1 = g2 at *
 generalize hg3 : g2 + 1 = g3 at *
 have n0 : g0 ≠ g3 := by omega
 have n1 : g1 ≠ g3 := by omega
 have n2 : g2 ≠ g3 := by omega
 have HG := Lib.hid (show w.heap.size ≤ g2 ∧ w.heap.size ≤ g3 by omega)
 clear hg0 hg1 hg2 hg3
 go_loopw [7,9] (fun cv iv wr => ∃ i : Nat,i ≤ 4 ∧ iv = .int .i64 i ∧ cv = .int .u64 (adC a b i : Nat) ∧ wr.heap[g0]? = some (.cells (rowN .u64 64 4 a) 134 (0,0)) ∧ wr.heap[g1]? = some (.cells (rowN .u64 64 4 b) 134 (0,0)) ∧ wr.heap[g2]? = some (.cells (rowN .u64 64 4 0) 134 (0,0)) ∧ wr.heap[g3]? = some (.cells (rowN .u64 64 4 (adS a b i)) 134 (0,0)) ∧ Fr F0 w wr) (fun cv iv _ => 4 - (intOf iv).toNat)
 case atStart => exact ⟨0,by omega,rfl,by rw [adC_zero]; rfl,r0,r1,r2,by rw [adS_zero]; exact r3,f1⟩
 case round =>
  clear r0 r1 r2 r3 f1
  obtain ⟨i,hi,rfl,rfl,r0,r1,r2,r3,f1⟩ := hrel
  by_cases hi4 : i < 4
  ·have li : (i : Int) < 4 := by omega
   have hcl := adC_le a b i
   have HS := Lib.hid (adS_succ a b i)
   have HN := Lib.hid (adC_succ a b i)
   have hl := adS_lt a b i
   go_wp2
   refine rbegin (S := (fun w' => w'.heap[g0]? = some (.cells (rowN .u64 64 4 a) 134 (0,0)) ∧ w'.heap[g1]? = some (.cells (rowN .u64 64 4 b) 134 (0,0)))) ?_ fun hHeld => ?_
   ·((try dsimp only) <;> (exact ⟨r0,r1⟩))
   refine rtake 0 ?_
   refine rtake 1 ?_
   refine rtake 2 ?_
   refine rtake 3 ?_
   refine rtake 4 ?_
   refine rtake 5 ?_
   refine rtake 6 ?_
   refine rtake 7 ?_
   refine rone 8 fun K hK => ?_
   go_simp
   refine hK.out _ _ ?_ (fun hHeld => ?_)
   ·((try dsimp only) <;> (first | exact ⟨r0,r1⟩ | (refine ⟨?_,?_⟩ <;> (simp only [heap_drew']; rw [heap_setCell_ne' _ _ _ _ _ (by assumption)]; assumption))))
   clear hK K
   try (simp only [Act.put,aST]; dsimp only [aS0,aS1])
   refine rtake 9 ?_
   refine rtake 10 ?_
   refine rtake 11 ?_
   refine rtake 12 ?_
   refine rone 13 fun K hK => ?_
   go_simp
   refine hK.out _ _ ?_ (fun hHeld => ?_)
   ·((try dsimp only) <;> (first | exact ⟨r0,r1⟩ | (refine ⟨?_,?_⟩ <;> (simp only [heap_drew']; rw [heap_setCell_ne' _ _ _ _ _ (by assumption)]; assumption))))
   clear hK K
   try (simp only [Act.put,aST]; dsimp only [aS0,aS1])
   refine rtake 14 ?_
   refine rdone ?_
   all_goals
    go_wp2
    go_roundw
    case rel =>
     refine ⟨i + 1,by omega,by go_num,by rw [HN.out],?_,?_,?_,?_,?_⟩
     ·rw [heap_drew',heap_setCell_ne' _ _ _ _ _ n0]; exact r0
     ·rw [heap_drew',heap_setCell_ne' _ _ _ _ _ n1]; exact r1
     ·rw [heap_drew',heap_setCell_ne' _ _ _ _ _ n2]; exact r2
     ·rw [heap_drew',row_put r3 hl (addLo_lt _ _ _),HS.out]
     ·exact (f1.setCell (p := ⟨g3,i,none⟩) (fun h => by have := HG.out; simp only at h; omega) _).drew
    case measure => simp [intOf]; omega
  ·obtain rfl : i = 4 := by omega
   rw [HA.out] at r3
   have hb0 := HC.out
   go_wp2
   refine bodyPost_ret (res_row_tmp rfl _ _ g2 _ _ _ _ rfl (by rw [heap_setRow_at,r2]; rfl) Tryz.underlying134 rfl (by rw [Tryz.szWide]; rfl)) rfl ⟨?_,?_⟩
   ·rw [← hb0,← bne0]; rfl
   ·exact f1.setRow (fun h => by have := HG.out; omega) _
theorem wSub_any (a b : Nat) (ha : a < W256) (hb : b < W256) (w : World) :
  Calls Tryz.prog 147 #[.agg (rowN .u64 64 4 a),.agg (rowN .u64 64 4 b)] w fun e w' => e = .returned (.tuple #[.agg (rowN .u64 64 4 ((a + W256 - b) % W256)),.bool (decide (a < b))]) ∧ Fr F0 w w' := by
 have HA := Lib.hid (sbS_all a b ha hb)
 have HC := Lib.hid (sbC_all a b ha hb)
 clear ha hb
 go_enter Tryz.func147,Tryz.ntmps147
 go_wp2
 obtain ⟨W1,hW1⟩ : ∃ W1,W1 = (((w.alloc (.cells (rowN .u64 64 4 a) 134)).alloc (.cells (rowN .u64 64 4 b) 134)).alloc (.cells (rowN .u64 64 4 0) 134)).alloc (.cells (rowN .u64 64 4 0) 134) := ⟨_,rfl⟩
 refine wp_of_world W1 hW1 ?_
 have f1 : Fr F0 w W1 := by rw [hW1]; exact ((((Fr.refl F0 w).alloc _).alloc _).alloc _).alloc _
 obtain ⟨r0,r1,r2,r3⟩ := heap4 w (.cells (rowN .u64 64 4 a) 134) (.cells (rowN .u64 64 4 b) 134) (.cells (rowN .u64 64 4 0) 134) (.cells (rowN .u64 64 4 0) 134)
 rw [← hW1] at r0 r1 r2 r3
 clear hW1
 generalize hg0 : w.heap.size = g0 at *
 generalize hg1 : g0 + 1 = g1 at *
 generalize hg2 : g1 + 1 = g2 at *
 generalize hg3 : g2 + 1 = g3 at *
 have n0 : g0 ≠ g3 := by omega
 have n1 : g1 ≠ g3 := by omega
 have n2 : g2 ≠ g3 := by omega
 have HG := Lib.hid (show w.heap.size ≤ g2 ∧ w.heap.size ≤ g3 by omega)
 clear hg0 hg1 hg2 hg3
 go_loopw [7,9] (fun cv iv wr => ∃ i : Nat,i ≤ 4 ∧ iv = .int .i64 i ∧ cv = .int .u64 (sbC a b i : Nat) ∧ wr.heap[g0]? = some (.cells (rowN .u64 64 4 a) 134 (0,0)) ∧ wr.heap[g1]? = some (.cells (rowN .u64 64 4 b) 134 (0,0)) ∧ wr.heap[g2]? = some (.cells (rowN .u64 64 4 0) 134 (0,0)) ∧ wr.heap[g3]? = some (.cells (rowN .u64 64 4 (sbS a b i)) 134 (0,0)) ∧ Fr F0 w wr) (fun cv iv _ => 4 - (intOf iv).toNat)
 case atStart => exact ⟨0,by omega,rfl,by rw [sbC_zero]; rfl,r0,r1,r2,by rw [sbS_zero]; exact r3,f1⟩
 case round =>
  clear r0 r1 r2 r3 f1
  obtain ⟨i,hi,rfl,rfl,r0,r1,r2,r3,f1⟩ := hrel
  by_cases hi4 : i < 4
  ·have li : (i : Int) < 4 := by omega
   have hcl := sbC_le a b i
   have HS := Lib.hid (sb_succ a b i).1
   have HN := Lib.hid (sb_succ a b i).2
   have hl := sbS_lt a b i
   go_wp2
   refine rbegin (S := (fun w' => w'.heap[g0]? = some (.cells (rowN .u64 64 4 a) 134 (0,0)) ∧ w'.heap[g1]? = some (.cells (rowN .u64 64 4 b) 134 (0,0)))) ?_ fun hHeld => ?_
   ·((try dsimp only) <;> (exact ⟨r0,r1⟩))
   refine rtake 0 ?_
   refine rtake 1 ?_
   refine rtake 2 ?_
   refine rtake 3 ?_
   refine rtake 4 ?_
   refine rtake 5 ?_
   refine rtake 6 ?_
   refine rtake 7 ?_
   refine rone 8 fun K hK => ?_
   go_simp
   refine hK.out _ _ ?_ (fun hHeld => ?_)
   ·((try dsimp only) <;> (first | exact ⟨r0,r1⟩ | (refine ⟨?_,?_⟩ <;> (simp only [heap_drew']; rw [heap_setCell_ne' _ _ _ _ _ (by assumption)]; assumption))))
   clear hK K
   try (simp only [Act.put,aST]; dsimp only [aS0,aS1])
   refine rtake 9 ?_
   refine rtake 10 ?_
   refine rtake 11 ?_
   refine rtake 12 ?_
   refine rone 13 fun K hK => ?_
   go_simp
   refine hK.out _ _ ?_ (fun hHeld => ?_)
   ·((try dsimp only) <;> (first | exact ⟨r0,r1⟩ | (refine ⟨?_,?_⟩ <;> (simp only [heap_drew']; rw [heap_setCell_ne' _ _ _ _ _ (by assumption)]; assumption))))
   clear hK K
   try (simp only [Act.put,aST]; dsimp only [aS0,aS1])
   refine rtake 14 ?_
   refine rdone ?_
   all_goals
    go_wp2
    go_roundw
    case rel =>
     refine ⟨i + 1,by omega,by go_num,by rw [HN.out],?_,?_,?_,?_,?_⟩
     ·rw [heap_drew',heap_setCell_ne' _ _ _ _ _ n0]; exact r0
     ·rw [heap_drew',heap_setCell_ne' _ _ _ _ _ n1]; exact r1
     ·rw [heap_drew',heap_setCell_ne' _ _ _ _ _ n2]; exact r2
     ·rw [heap_drew',row_put r3 hl (subLo_lt _ _ _),HS.out]
     ·exact (f1.setCell (p := ⟨g3,i,none⟩) (fun h => by have := HG.out; simp only at h; omega) _).drew
    case measure => simp [intOf]; omega
  ·obtain rfl : i = 4 := by omega
   rw [HA.out] at r3
   have hb0 := HC.out
   go_wp2
   refine bodyPost_ret (res_row_tmp rfl _ _ g2 _ _ _ _ rfl (by rw [heap_setRow_at,r2]; rfl) Tryz.underlying134 rfl (by rw [Tryz.szWide]; rfl)) rfl ⟨?_,?_⟩
   ·rw [← hb0,← bne0]; rfl
   ·exact f1.setRow (fun h => by have := HG.out; omega) _
end Go.Proofs.YtohckefafbhooaaGreat
namespace Go.Proofs.YtohckefafbhooaaGreat
set_option maxRecDepth 100000
set_option linter.unusedVariables false
set_option linter.unusedSimpArgs false
open Go.RowKit
theorem mul_part {a b : Nat} (ha : a < 4294967296) (hb : b < 4294967296) : a * b ≤ 18446744065119617025 := by
 have : a * b ≤ 4294967295 * 4294967295 := Nat.mul_le_mul (by omega) (by omega)
 omega
theorem mul_split (x y : Nat) : x * y = x % 4294967296 * (y % 4294967296) + 4294967296 * (x / 4294967296 * (y % 4294967296) + x % 4294967296 * (y / 4294967296)) + 18446744073709551616 * (x / 4294967296 * (y / 4294967296)) := by
 have h1 := Nat.mod_add_div x 4294967296
 have h2 := Nat.mod_add_div y 4294967296
 generalize x % 4294967296 = x0 at *
 generalize x / 4294967296 = x1 at *
 generalize y % 4294967296 = y0 at *
 generalize y / 4294967296 = y1 at *
 subst h1 h2
 have e1 : (x0 + 4294967296 * x1) * (y0 + 4294967296 * y1) = x0 * y0 + x0 * (4294967296 * y1) + (4294967296 * x1 * y0 + 4294967296 * x1 * (4294967296 * y1)) := by rw [Nat.add_mul,Nat.mul_add,Nat.mul_add]
 have e2 : x0 * (4294967296 * y1) = 4294967296 * (x0 * y1) := by rw [Nat.mul_left_comm]
 have e3 : 4294967296 * x1 * y0 = 4294967296 * (x1 * y0) := Nat.mul_assoc _ _ _
 have e4 : 4294967296 * x1 * (4294967296 * y1) = 18446744073709551616 * (x1 * y1) := by
  rw [Nat.mul_assoc,Nat.mul_left_comm x1,← Nat.mul_assoc]
 rw [e1,e2,e3,e4,Nat.mul_add]
 omega
theorem and_mask (x : Nat) (h : x < 18446744073709551616) : bits BinOp.and IntKind.u64 (x : Int) 4294967295 = ((x % 4294967296 : Nat) : Int) := by
 have h1 := u64_and_nat x 4294967295 h (by decide)
 rw [show ((4294967295 : Nat) : Int) = 4294967295 from rfl] at h1
 rw [h1,show (4294967295 : Nat) = 2 ^ 32 - 1 from rfl,Nat.and_two_pow_sub_one_eq_mod]
theorem Mul64_any (x y : Nat) (hx : x < 18446744073709551616) (hy : y < 18446744073709551616) (w : World) :
  Calls Tryz.prog 123 #[.int .u64 x,.int .u64 y] w fun e w' => e = .returned (.tuple #[.int .u64 (mulHi x y : Nat),.int .u64 (mulLo x y : Nat)]) ∧ w' = w := by
 have hs := mul_split x y
 have a0 := and_mask x hx
 have a1 := and_mask y hy
 have d0 : (x : Int) / 4294967296 = ((x / 4294967296 : Nat) : Int) := by omega
 have d1 : (y : Int) / 4294967296 = ((y / 4294967296 : Nat) : Int) := by omega
 have b0 : x % 4294967296 < 4294967296 := Nat.mod_lt _ (by decide)
 have b1 : y % 4294967296 < 4294967296 := Nat.mod_lt _ (by decide)
 have b2 : x / 4294967296 < 4294967296 := by omega
 have b3 : y / 4294967296 < 4294967296 := by omega
 generalize x % 4294967296 = x0 at *
 generalize x / 4294967296 = x1 at *
 generalize y % 4294967296 = y0 at *
 generalize y / 4294967296 = y1 at *
 have p0 := mul_part b0 b1
 have p1 := mul_part b2 b1
 have p2 := mul_part b0 b3
 have p3 := mul_part b2 b3
 have m0 : (x0 : Int) * y0 = ((x0 * y0 : Nat) : Int) := (Int.natCast_mul _ _).symm
 have m1 : (x1 : Int) * y0 = ((x1 * y0 : Nat) : Int) := (Int.natCast_mul _ _).symm
 have m2 : (x0 : Int) * y1 = ((x0 * y1 : Nat) : Int) := (Int.natCast_mul _ _).symm
 have m3 : (x1 : Int) * y1 = ((x1 * y1 : Nat) : Int) := (Int.natCast_mul _ _).symm
 have ml : (x : Int) * y = ((x * y : Nat) : Int) := (Int.natCast_mul _ _).symm
 have HR := Lib.hid (show mulHi x y = x * y / 18446744073709551616 ∧ mulLo x y = x * y % 18446744073709551616 from ⟨rfl,rfl⟩)
 generalize x0 * y0 = q0 at *
 generalize x1 * y0 = q1 at *
 generalize x0 * y1 = q2 at *
 generalize x1 * y1 = q3 at *
 generalize x * y = q at *
 have w0 : IntKind.u64.wrap (q0 : Int) = (q0 : Int) := IntWalk.u64_in _ (by omega)
 have w1 : IntKind.u64.wrap (q1 : Int) = (q1 : Int) := IntWalk.u64_in _ (by omega)
 have w2 : IntKind.u64.wrap (q2 : Int) = (q2 : Int) := IntWalk.u64_in _ (by omega)
 have w3 : IntKind.u64.wrap (q3 : Int) = (q3 : Int) := IntWalk.u64_in _ (by omega)
 obtain ⟨t,ht⟩ : ∃ t,t = q1 + q0 / 4294967296 := ⟨_,rfl⟩
 have w4 : IntKind.u64.wrap ((q1 : Int) + (q0 : Int) / 4294967296) = (t : Int) := by rw [IntWalk.u64_in _ (by omega)]; omega
 have a2 := and_mask t (by omega)
 obtain ⟨t0,ht0⟩ : ∃ q,q = t % 4294967296 := ⟨_,rfl⟩
 rw [← ht0] at a2
 obtain ⟨s,hs1⟩ : ∃ s,s = t0 + q2 := ⟨_,rfl⟩
 have w5 : IntKind.u64.wrap ((t0 : Int) + (q2 : Int)) = (s : Int) := by rw [IntWalk.u64_in _ (by omega)]; omega
 obtain ⟨u,hu⟩ : ∃ u,u = q3 + t / 4294967296 := ⟨_,rfl⟩
 have w6 : IntKind.u64.wrap ((q3 : Int) + (t : Int) / 4294967296) = (u : Int) := by rw [IntWalk.u64_in _ (by omega)]; omega
 obtain ⟨v,hv⟩ : ∃ v,v = u + s / 4294967296 := ⟨_,rfl⟩
 have w7 : IntKind.u64.wrap ((u : Int) + (s : Int) / 4294967296) = (v : Int) := by rw [IntWalk.u64_in _ (by omega)]; omega
 have w8 : IntKind.u64.wrap (q : Int) = ((mulLo x y : Nat) : Int) := by rw [HR.out.2,IntKind.wrap_u64]; omega
 have hvv : v = mulHi x y := by rw [HR.out.1]; omega
 have HV := Lib.hid hvv
 clear hvv ht ht0 hs1 hu hv hs p0 p1 p2 p3
 go_enter Tryz.func123,Tryz.ntmps123
 go_wp2
 go_ret2
 exact ⟨by rw [← HV.out]; rfl,rfl⟩
theorem wMul_any (a x : Nat) (ha : a < W256) (hx : x < 2 ^ 64) (w : World) :
  Calls Tryz.prog 146 #[.agg (rowN .u64 64 4 a),.int .u64 x] w fun e w' => e = .returned (.tuple #[.agg (rowN .u64 64 4 (a * x % W256)),.bool (decide (W256 ≤ a * x))]) ∧ Fr F0 w w' := by
 have HA := Lib.hid (mlS_all a x ha)
 have HC := Lib.hid (mlH_all a x ha)
 clear ha
 go_enter Tryz.func146,Tryz.ntmps146
 go_wp2
 obtain ⟨W1,hW1⟩ : ∃ W1,W1 = ((w.alloc (.cells (rowN .u64 64 4 a) 134)).alloc (.cells (rowN .u64 64 4 0) 134)).alloc (.cells (rowN .u64 64 4 0) 134) := ⟨_,rfl⟩
 refine wp_of_world W1 hW1 ?_
 have f1 : Fr F0 w W1 := by rw [hW1]; exact (((Fr.refl F0 w).alloc _).alloc _).alloc _
 obtain ⟨r0,r1,r2⟩ := heap3 w (.cells (rowN .u64 64 4 a) 134) (.cells (rowN .u64 64 4 0) 134) (.cells (rowN .u64 64 4 0) 134)
 rw [← hW1] at r0 r1 r2
 clear hW1
 generalize hg0 : w.heap.size = g0 at *
 generalize hg1 : g0 + 1 = g1 at *
 generalize hg2 : g1 + 1 = g2 at *
 have n1 : g1 ≠ g2 := by omega
 have HG := Lib.hid (show w.heap.size ≤ g1 ∧ w.heap.size ≤ g2 by omega)
 clear hg0 hg1 hg2 r0
 go_loopw [7,15] (fun cv iv wr => ∃ i : Nat,i ≤ 4 ∧ iv = .int .i64 i ∧ cv = .int .u64 (mlH a x i : Nat) ∧ wr.heap[g1]? = some (.cells (rowN .u64 64 4 0) 134 (0,0)) ∧ wr.heap[g2]? = some (.cells (rowN .u64 64 4 (mlS a x i)) 134 (0,0)) ∧ Fr F0 w wr) (fun cv iv _ => 4 - (intOf iv).toNat)
 case atStart => exact ⟨0,by omega,rfl,by rw [mlH_zero]; rfl,r1,by rw [mlS_zero]; exact r2,f1⟩
 case round =>
  clear r1 r2 f1
  obtain ⟨i,hi,rfl,rfl,r1,r2,f1⟩ := hrel
  by_cases hi4 : i < 4
  ·have li : (i : Int) < 4 := by omega
   have HS := Lib.hid (mlS_succ a x i)
   have HN := Lib.hid (mlH_succ a x i)
   have hl := mlS_lt a x i
   have hh := mlH_lt a x (i + 1) hx
   rw [HN.out] at hh
   have hw : IntKind.u64.wrap ((mulHi (dgt 64 a i) x : Nat) + (addHi (mulLo (dgt 64 a i) x) (mlH a x i) 0 : Nat) : Int) = (mlH a x (i + 1) : Nat) := by
    rw [HN.out,IntWalk.u64_in _ (by omega)]; omega
   have hdl := dgt_lt 64 a i
   go_wp2_with ((with_reducible refine (Mul64_any _ _ (by omega) (by omega) _).mono ?_); rintro e w' ⟨rfl,rfl⟩)
   go_roundw
   case rel =>
    refine ⟨i + 1,by omega,by go_num,rfl,?_,?_,?_⟩
    ·rw [heap_setCell_ne' _ _ _ _ _ n1]; exact r1
    ·rw [row_put r2 hl (addLo_lt _ _ _),HS.out]
    ·exact f1.setCell (p := ⟨g2,i,none⟩) (fun h => by have := HG.out; simp only at h; omega) _
   case measure => simp [intOf]; omega
  ·obtain rfl : i = 4 := by omega
   rw [HA.out] at r2
   have hb0 := HC.out
   go_wp2
   refine bodyPost_ret (res_row_tmp rfl _ _ g1 _ _ _ _ rfl (by rw [heap_setRow_at,r1]; rfl) Tryz.underlying134 rfl (by rw [Tryz.szWide]; rfl)) rfl ⟨?_,?_⟩
   ·rw [← hb0,← bne0]; rfl
   ·exact f1.setRow (fun h => by have := HG.out; omega) _
end Go.Proofs.YtohckefafbhooaaGreat
namespace Go.Proofs.YtohckefafbhooaaGreat
set_option maxRecDepth 100000
set_option linter.unusedVariables false
set_option linter.unusedSimpArgs false
open Go.RowKit
def U64 (x : Nat) : Value := .int .u64 (x : Int)
def Us (w : World) (a : Option Addr) (c : Nat) (l : List Nat) : Prop := Sl w 1 a c l.length (l.map U64)
theorem Us.get {w : World} {a : Option Addr} {c : Nat} {l : List Nat} (h : Us w a c l) (j : Nat) (hj : j < l.length) : ∃ b off,a = some ⟨b,off,none⟩ ∧ Obj.cellAt (off + j) w.heap[b]? = some (.int .u64 (l.getD j 0 : Nat)) := by
 obtain ⟨b,off,e,hc⟩ := h.cell j (U64 (l.getD j 0)) (by simp [List.getElem?_map,List.getElem?_eq_getElem hj,List.getD])
 exact ⟨b,off,e,by rw [← cell_at]; exact hc⟩
def ds (n x : Nat) : List Nat := (List.range n).map (dgt 16 x)
def lg (x : Nat) : Nat := if x = 0 then 0 else x.log2 / 16 + 1
def dg (x : Nat) : List Nat := ds (lg x) x
abbrev Ns (w : World) (a : Option Addr) (c : Nat) (x : Nat) : Prop := Us w a c (dg x)
end Go.Proofs.YtohckefafbhooaaGreat
namespace Go.Proofs.YtohckefafbhooaaGreat
set_option maxRecDepth 100000
set_option linter.unusedVariables false
set_option linter.unusedSimpArgs false
open Go.RowKit
end Go.Proofs.YtohckefafbhooaaGreat
namespace Go.Proofs.YtohckefafbhooaaGreat
set_option maxRecDepth 100000
set_option linter.unusedVariables false
set_option linter.unusedSimpArgs false
open Go.RowKit
end Go.Proofs.YtohckefafbhooaaGreat
namespace Go.Proofs.YtohckefafbhooaaGreat
set_option maxRecDepth 100000
set_option linter.unusedVariables false
set_option linter.unusedSimpArgs false
open Go.RowKit
end Go.Proofs.YtohckefafbhooaaGreat
namespace Go.Proofs.YtohckefafbhooaaGreat
set_option maxRecDepth 100000
set_option linter.unusedVariables false
set_option linter.unusedSimpArgs false
open Go.RowKit
end Go.Proofs.YtohckefafbhooaaGreat
namespace Go.Proofs.YtohckefafbhooaaGreat
set_option maxRecDepth 100000
set_option linter.unusedVariables false
set_option linter.unusedSimpArgs false
open Go.RowKit
end Go.Proofs.YtohckefafbhooaaGreat
namespace Go.Proofs.YtohckefafbhooaaGreat
set_option maxRecDepth 100000
set_option linter.unusedVariables false
set_option linter.unusedSimpArgs false
open Go.RowKit
end Go.Proofs.YtohckefafbhooaaGreat
