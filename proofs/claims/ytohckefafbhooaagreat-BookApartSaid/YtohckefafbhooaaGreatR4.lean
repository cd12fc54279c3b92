import Derived.Test.YtohckefafbhooaaGreatR2
import Derived.Deep.RegionWith
import Derived.Test.YtohckefafbhooaaGreatR1
import Derived.OrdersHeld
import Derived.Deep.RegionHeld3
import Derived.Laws.Externs
import Derived.Laws.BitsAllLaws
import Derived.OwnWalk
import Derived.Laws.OwnMore
set_option maxRecDepth 100000
set_option maxHeartbeats 64000000
namespace Go.Proofs.YtohckefafbhooaaGreat
set_option linter.unusedVariables false
set_option linter.unusedSimpArgs false
open Go.RowKit
theorem Tryz.szWide : (Tryz.prog.info? 134).map (·.size) = some 4 := by kernel_rfl
theorem Tryz.szArr4 : (Tryz.prog.info? 133).map (·.size) = some 4 := by kernel_rfl
@[go_sem ↓ high] theorem aKr (p : Value) : Instr.loadAt 134 p = gu 134 p := rfl
@[go_sem ↓ high] theorem aKu (p : Value) : Instr.loadAt 133 p = gu 133 p := rfl
@[go_sem ↓ high] theorem aGb (p v : Value) : Instr.storeAt 134 p v = jd 134 p v := rfl
@[go_sem ↓ high] theorem aGd (p v : Value) : Instr.storeAt 133 p v = jd 133 p v := rfl
@[go_sem] theorem aBq (w : World) (g : Nat) : (gu 134 (.pointer (some ⟨g,0,none⟩))).run Tryz.prog w = abe Tryz.prog 134 (.pointer (some ⟨g,0,none⟩)) w 4 w.heap[g]? :=
 ku w _ g 4 _ Tryz.underlying134 rfl Tryz.szWide
@[go_sem] theorem aBs (w : World) (g : Nat) : (gu 133 (.pointer (some ⟨g,0,none⟩))).run Tryz.prog w = abe Tryz.prog 133 (.pointer (some ⟨g,0,none⟩)) w 4 w.heap[g]? :=
 ku w _ g 4 _ Tryz.underlying133 rfl Tryz.szArr4
@[go_sem] theorem ay5 (w : World) (g : Nat) (cells : Array Value) : (jd 134 (.pointer (some ⟨g,0,none⟩)) (.agg cells)).run Tryz.prog w = aec Tryz.prog 134 (.pointer (some ⟨g,0,none⟩)) cells g w 4 w.heap[g]? :=
 ou w _ g 4 cells Tryz.szWide
@[go_sem] theorem ay7 (w : World) (g : Nat) (cells : Array Value) : (jd 133 (.pointer (some ⟨g,0,none⟩)) (.agg cells)).run Tryz.prog w = aec Tryz.prog 133 (.pointer (some ⟨g,0,none⟩)) cells g w 4 w.heap[g]? :=
 ou w _ g 4 cells Tryz.szArr4
theorem amb (w : World) (A B C : Obj) : (((w.alloc A).alloc B).alloc C).heap[w.heap.size + 1 + 1]? = some C := by
 have := heap_alloc_new ((w.alloc A).alloc B) C
 simpa using this
theorem ama (w : World) (A B C D : Obj) : ((((w.alloc A).alloc B).alloc C).alloc D).heap[w.heap.size + 1 + 1 + 1]? = some D := by
 have := heap_alloc_new (((w.alloc A).alloc B).alloc C) D
 simpa using this
attribute [simp high] heap_alloc2_new amb ama abx ad5 heap_alloc_new heap_alloc_old bf dh cu bn acg jr jg ab2 mg aas apf yt amy
attribute [go_sem low] gq aex
theorem Tryz.szU64 : (Tryz.prog.info? 23).map (·.size) = some 1 := by kernel_rfl
@[simp high] theorem ah3 (w : World) (x i : Nat) (k : IntKind) (h : i < 4) : (Instr.index 134 (.agg (ig .u64 64 4 x)) (.int k (i : Int))).run Tryz.prog w = .ok (.int .u64 (dgt 64 x i : Nat)) w :=
 ach w _ _ 4 _ k i _ Tryz.underlying134 Tryz.underlying23 rfl Tryz.szU64 _ h (yt _ _ _ _ _ h)
@[simp high] theorem ayt (w : World) (x : Nat) (k : IntKind) : (Instr.index 134 (.agg (ig .u64 64 4 x)) (.int k 0)).run Tryz.prog w = .ok (.int .u64 (dgt 64 x 0 : Nat)) w := ah3 w x 0 k (by omega)
@[simp high] theorem azb (w : World) (x i : Nat) (k : IntKind) (h : i < 4) : (Instr.index 133 (.agg (ig .u64 64 4 x)) (.int k (i : Int))).run Tryz.prog w = .ok (.int .u64 (dgt 64 x i : Nat)) w :=
 ach w _ _ 4 _ k i _ Tryz.underlying133 Tryz.underlying23 rfl Tryz.szU64 _ h (yt _ _ _ _ _ h)
@[simp high] theorem aGe (v : Nat) : ae5 64 0 0 v = v := by rw [aga _ _ _ _ (by simp)]; simp
@[simp high] theorem putw_one (x y : Nat) (h : x < 2 ^ 64) : ae5 64 x 1 y = x + 2 ^ 64 * y := aga _ _ _ _ h
abbrev WR (x : Nat) : Array Value := ig .u64 64 4 x
abbrev WV (x : Nat) : Value := .agg (ig .u64 64 4 x)
theorem aFs : ig .u64 64 4 0 = #[.int .u64 0,.int .u64 0,.int .u64 0,.int .u64 0] := by
 simp [ig,dgt,List.range_succ]
@[go_sem high] theorem zero4 : (#[.int .u64 0,.int .u64 0,.int .u64 0,.int .u64 0] : Array Value) = ig .u64 64 4 0 := aFs.symm
@[go_sem high] theorem abr (z i v : Nat) (hv : v < 2 ^ 64) : (ig .u64 64 4 z).setIfInBounds i (.int .u64 (v : Int)) = ig .u64 64 4 (ae5 64 z i v) := aei _ _ _ _ _ _ hv
theorem bg {P : Program} {c : Code} {Q : Exit → Act → World → Prop} {a : Act} {w : World} (W : World) (h : W = w) (k : Code.wp P c Q a W) : Code.wp P c Q a w := h ▸ k
theorem Calls.abt {P : Program} {f : FuncId} {args : Array Value} {w : World} {R : Ending → World → Prop} (W : World) (h : W = w) (k : Calls P f args W R) : Calls P f args w R := h ▸ k
def sub64Entry : Array Value → Sem Value := fun args => do
 let (x, y, b) ← Extern.MathBitsCarry.three "Sub64" args
 pure (Extern.MathBitsCarry.pair ((x + Extern.MathBitsCarry.m64 - y - b) % Extern.MathBitsCarry.m64) (if x < y + b then 1 else 0))
theorem run_sub64 {P : Program} (x y b : Nat) (hb : b ≤ 1) (w : World) :
  (sub64Entry #[.int .u64 x,.int .u64 y,.int .u64 b]).run P w = .ok (.tuple #[.int .u64 (alc x y b : Nat),.int .u64 (ald x y b : Nat)]) w := by
 have : b = 0 ∨ b = 1 := by omega
 rcases this with rfl | rfl <;> rfl
theorem as1 {P : Program} (x y c : Nat) (hc : c ≤ 1) (w : World) :
  (add64Entry #[.int .u64 x,.int .u64 y,.int .u64 c]).run P w = .ok (.tuple #[.int .u64 (afb x y c : Nat),.int .u64 (alg x y c : Nat)]) w := by
 have : c = 0 ∨ c = 1 := by omega
 rcases this with rfl | rfl <;> rfl
@[go_sem] theorem aw2 (x y c : Nat) (hc : c ≤ 1) (w : World) :
  (callFunc 127 #[.int .u64 x,.int .u64 y,.int .u64 c]).run Tryz.prog w = .ok (.value (.tuple #[.int .u64 (afb x y c : Nat),.int .u64 (alg x y c : Nat)])) w := by
 rw [run_callFunc_extern Tryz.func127 (by kernel_rfl) (by kernel_rfl) (by kernel_rfl) (e := add64Entry) (by kernel_rfl),as1 x y c hc]
 rfl
@[go_sem] theorem aFx (x y : Nat) (w : World) :
  (callFunc 127 #[.int .u64 x,.int .u64 y,.int .u64 0]).run Tryz.prog w = .ok (.value (.tuple #[.int .u64 (afb x y 0 : Nat),.int .u64 (alg x y 0 : Nat)])) w := aw2 x y 0 (by omega) w
@[go_sem] theorem aKq (x y c : Nat) (hc : c ≤ 1) (w : World) :
  (callFunc 161 #[.int .u64 x,.int .u64 y,.int .u64 c]).run Tryz.prog w = .ok (.value (.tuple #[.int .u64 (alc x y c : Nat),.int .u64 (ald x y c : Nat)])) w := by
 rw [run_callFunc_extern Tryz.func161 (by kernel_rfl) (by kernel_rfl) (by kernel_rfl) (e := sub64Entry) (by kernel_rfl),run_sub64 x y c hc]
 rfl
theorem bne0 (n : Nat) : ((n : Int) != 0) = (n != 0) := by
 by_cases h : n = 0
 ·subst h; rfl
 ·rw [bne_iff_ne.2 (show (n : Int) ≠ 0 by omega),bne_iff_ne.2 h]
theorem abl {P : Program} {fn : Func} {p u : Tmp} {ty : TypeId} (h : fn.results = #[.cell p ty,.tmp u]) (tmps : Array Value) (w : World) (g : Nat) (t : TypeId) (cs : Array Value) (fr : Nat × Nat) (d : TypeDesc)
  (hp : tmps.getD p undef = .pointer (some ⟨g,0,none⟩)) (hg : w.heap[g]? = some (.cells cs t fr))
  (hu : P.underlying ty = some d) (hd : (match d with | .struct _ | .array _ _ => true | _ => false) = true) (hi : (P.info? ty).map (·.size) = some cs.size) :
  (results fn tmps).run P w = .ok (.tuple #[.agg cs,tmps.getD u undef]) w := by
 have hp' : tmps[p]?.getD undef = .pointer (some ⟨g,0,none⟩) := by simpa using hp
 simp [results,h,hp',asAddr,run_loadVar_row w g t ty cs fr d hg hu hd hi]
theorem heap2 (w : World) (A B : Obj) : let W := (w.alloc A).alloc B
  W.heap[w.heap.size]? = some A ∧ W.heap[w.heap.size + 1]? = some B := ⟨heap_alloc2_old _ _ _,heap_alloc2_new _ _ _⟩
theorem aon (w : World) (A B C : Obj) : let W := ((w.alloc A).alloc B).alloc C
  W.heap[w.heap.size]? = some A ∧ W.heap[w.heap.size + 1]? = some B ∧ W.heap[w.heap.size + 1 + 1]? = some C := by
 refine ⟨?_,?_,?_⟩
 ·rw [heap_alloc_old _ _ (by first | (simp; done) | (simp; omega))]
  exact (heap2 w A B).1
 ·rw [heap_alloc_old _ _ (by simp)]
  exact (heap2 w A B).2
 ·exact amb w A B C
theorem aze (w : World) (A B C D : Obj) : let W := (((w.alloc A).alloc B).alloc C).alloc D
  W.heap[w.heap.size]? = some A ∧ W.heap[w.heap.size + 1]? = some B ∧ W.heap[w.heap.size + 1 + 1]? = some C ∧ W.heap[w.heap.size + 1 + 1 + 1]? = some D := by
 obtain ⟨h0,h1,h2⟩ := aon w A B C
 refine ⟨?_,?_,?_,?_⟩
 ·rw [heap_alloc_old _ _ (by first | (simp; done) | (simp; omega))]; exact h0
 ·rw [heap_alloc_old _ _ (by first | (simp; done) | (simp; omega))]; exact h1
 ·rw [heap_alloc_old _ _ (by simp)]; exact h2
 ·exact ama w A B C D
theorem aov {w : World} {g i z v : Nat} {t : TypeId} (h : w.heap[g]? = some (.cells (ig .u64 64 4 z) t (0,0))) (hz : z < 2 ^ (64 * i)) (hv : v < 2 ^ 64) :
  (w.setCell ⟨g,i,none⟩ (.int .u64 (v : Int))).heap[g]? = some (.cells (ig .u64 64 4 (z + 2 ^ (64 * i) * v)) t (0,0)) := by
 rw [cu,h,jr,abr _ _ _ hv,aga _ _ _ _ hz]
theorem azk (a b : Nat) (ha : a < oz) (hb : b < oz) (w : World) :
  Calls Tryz.prog 93 #[.agg (ig .u64 64 4 a),.agg (ig .u64 64 4 b)] w fun e w' => e = .returned (.tuple #[.agg (ig .u64 64 4 ((a + b) % oz)),.bool (decide (oz ≤ a + b))]) ∧ Fr F0 w w' := by
 have HA := Lib.hid (aFq a b ha hb)
 have HC := Lib.hid (aFr a b ha hb)
 clear ha hb
 go_enter Tryz.func93,Tryz.ntmps93
 go_wp2
 obtain ⟨W1,hW1⟩ : ∃ W1,W1 = (((w.alloc (.cells (ig .u64 64 4 a) 134)).alloc (.cells (ig .u64 64 4 b) 134)).alloc (.cells (ig .u64 64 4 0) 134)).alloc (.cells (ig .u64 64 4 0) 134) := ⟨_,rfl⟩
 refine bg W1 hW1 ?_
 have f1 : Fr F0 w W1 := by rw [hW1]; exact ((((Fr.refl F0 w).alloc _).alloc _).alloc _).alloc _
 obtain ⟨r0,r1,r2,r3⟩ := aze w (.cells (ig .u64 64 4 a) 134) (.cells (ig .u64 64 4 b) 134) (.cells (ig .u64 64 4 0) 134) (.cells (ig .u64 64 4 0) 134)
 rw [← hW1] at r0 r1 r2 r3
 clear hW1
 generalize hg0 : w.heap.size = g0 at *
 generalize hg1 : g0 + 1 = g1 at *
 generalize hg2 : g1 + 1 = g2 at *
 generalize hg3 : g2 + 1 = g3 at *
 have n0 : g0 ≠ g3 := by omega
 have n1 : g1 ≠ g3 := by omega
 have n2 : g2 ≠ g3 := by omega
 have HG := Lib.hid (show w.heap.size ≤ g2 ∧ w.heap.size ≤ g3 by omega)
 clear hg0 hg1 hg2 hg3
 go_loopw [7,9] (fun cv iv wr => ∃ i : Nat,i ≤ 4 ∧ iv = .int .i64 i ∧ cv = .int .u64 (adC a b i : Nat) ∧ wr.heap[g0]? = some (.cells (ig .u64 64 4 a) 134 (0,0)) ∧ wr.heap[g1]? = some (.cells (ig .u64 64 4 b) 134 (0,0)) ∧ wr.heap[g2]? = some (.cells (ig .u64 64 4 0) 134 (0,0)) ∧ wr.heap[g3]? = some (.cells (ig .u64 64 4 (adS a b i)) 134 (0,0)) ∧ Fr F0 w wr) (fun cv iv _ => 4 - (intOf iv).toNat)
 case atStart => exact ⟨0,by omega,rfl,by rw [aBn]; rfl,r0,r1,r2,by rw [aBk]; exact r3,f1⟩
 case round =>
  clear r0 r1 r2 r3 f1
  obtain ⟨i,hi,rfl,rfl,r0,r1,r2,r3,f1⟩ := hrel
  by_cases hi4 : i < 4
  ·have li : (i : Int) < 4 := by omega
   have hcl := aKo a b i
   have HS := Lib.hid (aBl a b i)
   have HN := Lib.hid (aBo a b i)
   have hl := avn a b i
   go_wp2
   refine zn (S := (fun w' => w'.heap[g0]? = some (.cells (ig .u64 64 4 a) 134 (0,0)) ∧ w'.heap[g1]? = some (.cells (ig .u64 64 4 b) 134 (0,0)))) ?_ fun aj => ?_
   ·exact(by ((try dsimp only) <;> (exact ⟨r0,r1⟩)))
   refine au 0 ?_
   refine au 1 ?_
   refine au 2 ?_
   refine au 3 ?_
   refine au 4 ?_
   refine au 5 ?_
   refine au 6 ?_
   refine au 7 ?_
   refine zi 8 fun K hK => ?_
   go_simp
   refine rpu hK (by ((try dsimp only) <;> (first | exact ⟨r0,r1⟩ | (refine ⟨?_,?_⟩ <;> (simp only [mg]; rw [bn _ _ _ _ _ (by assumption)]; assumption))))) fun aj => ?_
   clear hK K
   refine au 9 ?_
   refine au 10 ?_
   refine au 11 ?_
   refine au 12 ?_
   refine zi 13 fun K hK => ?_
   go_simp
   refine rpu hK (by ((try dsimp only) <;> (first | exact ⟨r0,r1⟩ | (refine ⟨?_,?_⟩ <;> (simp only [mg]; rw [bn _ _ _ _ _ (by assumption)]; assumption))))) fun aj => ?_
   clear hK K
   refine au 14 ?_
   refine aap ?_
   all_goals
    go_wp2
    go_roundw
    case rel =>
     refine ⟨i + 1,by omega,by go_num,by rw [HN.out],?_,?_,?_,?_,?_⟩
     ·rw [mg,bn _ _ _ _ _ n0]; exact r0
     ·rw [mg,bn _ _ _ _ _ n1]; exact r1
     ·rw [mg,bn _ _ _ _ _ n2]; exact r2
     ·rw [mg,aov r3 hl (aem _ _ _),HS.out]
     ·exact (f1.setCell (p := ⟨g3,i,none⟩) (fun h => by have := HG.out; simp only at h; omega) _).drew
    case measure => simp [intOf]; omega
  ·obtain rfl : i = 4 := by omega
   rw [HA.out] at r3
   have hb0 := HC.out
   go_wp2
   refine bodyPost_ret (abl rfl _ _ g2 _ _ _ _ rfl (by rw [bf,r2]; rfl) Tryz.underlying134 rfl (by rw [Tryz.szWide]; rfl)) rfl ⟨?_,?_⟩
   ·rw [← hb0,← bne0]; rfl
   ·exact f1.setRow (fun h => by have := HG.out; omega) _
theorem azh (a b : Nat) (ha : a < oz) (hb : b < oz) (w : World) :
  Calls Tryz.prog 147 #[.agg (ig .u64 64 4 a),.agg (ig .u64 64 4 b)] w fun e w' => e = .returned (.tuple #[.agg (ig .u64 64 4 ((a + oz - b) % oz)),.bool (decide (a < b))]) ∧ Fr F0 w w' := by
 have HA := Lib.hid (aDs a b ha hb)
 have HC := Lib.hid (aDt a b ha hb)
 clear ha hb
 go_enter Tryz.func147,Tryz.ntmps147
 go_wp2
 obtain ⟨W1,hW1⟩ : ∃ W1,W1 = (((w.alloc (.cells (ig .u64 64 4 a) 134)).alloc (.cells (ig .u64 64 4 b) 134)).alloc (.cells (ig .u64 64 4 0) 134)).alloc (.cells (ig .u64 64 4 0) 134) := ⟨_,rfl⟩
 refine bg W1 hW1 ?_
 have f1 : Fr F0 w W1 := by rw [hW1]; exact ((((Fr.refl F0 w).alloc _).alloc _).alloc _).alloc _
 obtain ⟨r0,r1,r2,r3⟩ := aze w (.cells (ig .u64 64 4 a) 134) (.cells (ig .u64 64 4 b) 134) (.cells (ig .u64 64 4 0) 134) (.cells (ig .u64 64 4 0) 134)
 rw [← hW1] at r0 r1 r2 r3
 clear hW1
 generalize hg0 : w.heap.size = g0 at *
 generalize hg1 : g0 + 1 = g1 at *
 generalize hg2 : g1 + 1 = g2 at *
 generalize hg3 : g2 + 1 = g3 at *
 have n0 : g0 ≠ g3 := by omega
 have n1 : g1 ≠ g3 := by omega
 have n2 : g2 ≠ g3 := by omega
 have HG := Lib.hid (show w.heap.size ≤ g2 ∧ w.heap.size ≤ g3 by omega)
 clear hg0 hg1 hg2 hg3
 go_loopw [7,9] (fun cv iv wr => ∃ i : Nat,i ≤ 4 ∧ iv = .int .i64 i ∧ cv = .int .u64 (sbC a b i : Nat) ∧ wr.heap[g0]? = some (.cells (ig .u64 64 4 a) 134 (0,0)) ∧ wr.heap[g1]? = some (.cells (ig .u64 64 4 b) 134 (0,0)) ∧ wr.heap[g2]? = some (.cells (ig .u64 64 4 0) 134 (0,0)) ∧ wr.heap[g3]? = some (.cells (ig .u64 64 4 (sbS a b i)) 134 (0,0)) ∧ Fr F0 w wr) (fun cv iv _ => 4 - (intOf iv).toNat)
 case atStart => exact ⟨0,by omega,rfl,by rw [azy]; rfl,r0,r1,r2,by rw [azx]; exact r3,f1⟩
 case round =>
  clear r0 r1 r2 r3 f1
  obtain ⟨i,hi,rfl,rfl,r0,r1,r2,r3,f1⟩ := hrel
  by_cases hi4 : i < 4
  ·have li : (i : Int) < 4 := by omega
   have hcl := avg a b i
   have HS := Lib.hid (avw a b i).1
   have HN := Lib.hid (avw a b i).2
   have hl := avf a b i
   go_wp2
   refine zn (S := (fun w' => w'.heap[g0]? = some (.cells (ig .u64 64 4 a) 134 (0,0)) ∧ w'.heap[g1]? = some (.cells (ig .u64 64 4 b) 134 (0,0)))) ?_ fun aj => ?_
   ·exact(by ((try dsimp only) <;> (exact ⟨r0,r1⟩)))
   refine au 0 ?_
   refine au 1 ?_
   refine au 2 ?_
   refine au 3 ?_
   refine au 4 ?_
   refine au 5 ?_
   refine au 6 ?_
   refine au 7 ?_
   refine zi 8 fun K hK => ?_
   go_simp
   refine rpu hK (by ((try dsimp only) <;> (first | exact ⟨r0,r1⟩ | (refine ⟨?_,?_⟩ <;> (simp only [mg]; rw [bn _ _ _ _ _ (by assumption)]; assumption))))) fun aj => ?_
   clear hK K
   refine au 9 ?_
   refine au 10 ?_
   refine au 11 ?_
   refine au 12 ?_
   refine zi 13 fun K hK => ?_
   go_simp
   refine rpu hK (by ((try dsimp only) <;> (first | exact ⟨r0,r1⟩ | (refine ⟨?_,?_⟩ <;> (simp only [mg]; rw [bn _ _ _ _ _ (by assumption)]; assumption))))) fun aj => ?_
   clear hK K
   refine au 14 ?_
   refine aap ?_
   all_goals
    go_wp2
    go_roundw
    case rel =>
     refine ⟨i + 1,by omega,by go_num,by rw [HN.out],?_,?_,?_,?_,?_⟩
     ·rw [mg,bn _ _ _ _ _ n0]; exact r0
     ·rw [mg,bn _ _ _ _ _ n1]; exact r1
     ·rw [mg,bn _ _ _ _ _ n2]; exact r2
     ·rw [mg,aov r3 hl (aq3 _ _ _),HS.out]
     ·exact (f1.setCell (p := ⟨g3,i,none⟩) (fun h => by have := HG.out; simp only at h; omega) _).drew
    case measure => simp [intOf]; omega
  ·obtain rfl : i = 4 := by omega
   rw [HA.out] at r3
   have hb0 := HC.out
   go_wp2
   refine bodyPost_ret (abl rfl _ _ g2 _ _ _ _ rfl (by rw [bf,r2]; rfl) Tryz.underlying134 rfl (by rw [Tryz.szWide]; rfl)) rfl ⟨?_,?_⟩
   ·rw [← hb0,← bne0]; rfl
   ·exact f1.setRow (fun h => by have := HG.out; omega) _
theorem agb {a b : Nat} (ha : a < 4294967296) (hb : b < 4294967296) : a * b ≤ 18446744065119617025 := by
 have : a * b ≤ 4294967295 * 4294967295 := Nat.mul_le_mul (by omega) (by omega)
 omega
theorem axp (x y : Nat) : x * y = x % 4294967296 * (y % 4294967296) + 4294967296 * (x / 4294967296 * (y % 4294967296) + x % 4294967296 * (y / 4294967296)) + 18446744073709551616 * (x / 4294967296 * (y / 4294967296)) := by
 have h1 := Nat.mod_add_div x 4294967296
 have h2 := Nat.mod_add_div y 4294967296
 generalize x % 4294967296 = x0 at *
 generalize x / 4294967296 = x1 at *
 generalize y % 4294967296 = y0 at *
 generalize y / 4294967296 = y1 at *
 subst h1 h2
 have e1 : (x0 + 4294967296 * x1) * (y0 + 4294967296 * y1) = x0 * y0 + x0 * (4294967296 * y1) + (4294967296 * x1 * y0 + 4294967296 * x1 * (4294967296 * y1)) := by rw [Nat.add_mul,Nat.mul_add,Nat.mul_add]
 have e2 : x0 * (4294967296 * y1) = 4294967296 * (x0 * y1) := by rw [Nat.mul_left_comm]
 have e3 : 4294967296 * x1 * y0 = 4294967296 * (x1 * y0) := Nat.mul_assoc _ _ _
 have e4 : 4294967296 * x1 * (4294967296 * y1) = 18446744073709551616 * (x1 * y1) := by
  rw [Nat.mul_assoc,Nat.mul_left_comm x1,← Nat.mul_assoc]
 rw [e1,e2,e3,e4,Nat.mul_add]
 omega
theorem ael (x : Nat) (h : x < 18446744073709551616) : bits BinOp.and IntKind.u64 (x : Int) 4294967295 = ((x % 4294967296 : Nat) : Int) := by
 have h1 := u64_and_nat x 4294967295 h (by decide)
 rw [show ((4294967295 : Nat) : Int) = 4294967295 from rfl] at h1
 rw [h1,show (4294967295 : Nat) = 2 ^ 32 - 1 from rfl,Nat.and_two_pow_sub_one_eq_mod]
theorem amn (x y : Nat) (hx : x < 18446744073709551616) (hy : y < 18446744073709551616) (w : World) :
  Calls Tryz.prog 123 #[.int .u64 x,.int .u64 y] w fun e w' => e = .returned (.tuple #[.int .u64 (ahz x y : Nat),.int .u64 (adi x y : Nat)]) ∧ w' = w := by
 have hs := axp x y
 have a0 := ael x hx
 have a1 := ael y hy
 have d0 : (x : Int) / 4294967296 = ((x / 4294967296 : Nat) : Int) := by omega
 have d1 : (y : Int) / 4294967296 = ((y / 4294967296 : Nat) : Int) := by omega
 have b0 : x % 4294967296 < 4294967296 := Nat.mod_lt _ (by decide)
 have b1 : y % 4294967296 < 4294967296 := Nat.mod_lt _ (by decide)
 have b2 : x / 4294967296 < 4294967296 := by omega
 have b3 : y / 4294967296 < 4294967296 := by omega
 generalize x % 4294967296 = x0 at *
 generalize x / 4294967296 = x1 at *
 generalize y % 4294967296 = y0 at *
 generalize y / 4294967296 = y1 at *
 have p0 := agb b0 b1
 have p1 := agb b2 b1
 have p2 := agb b0 b3
 have p3 := agb b2 b3
 have m0 : (x0 : Int) * y0 = ((x0 * y0 : Nat) : Int) := (Int.natCast_mul _ _).symm
 have m1 : (x1 : Int) * y0 = ((x1 * y0 : Nat) : Int) := (Int.natCast_mul _ _).symm
 have m2 : (x0 : Int) * y1 = ((x0 * y1 : Nat) : Int) := (Int.natCast_mul _ _).symm
 have m3 : (x1 : Int) * y1 = ((x1 * y1 : Nat) : Int) := (Int.natCast_mul _ _).symm
 have ml : (x : Int) * y = ((x * y : Nat) : Int) := (Int.natCast_mul _ _).symm
 have HR := Lib.hid (show ahz x y = x * y / 18446744073709551616 ∧ adi x y = x * y % 18446744073709551616 from ⟨rfl,rfl⟩)
 generalize x0 * y0 = q0 at *
 generalize x1 * y0 = q1 at *
 generalize x0 * y1 = q2 at *
 generalize x1 * y1 = q3 at *
 generalize x * y = q at *
 have w0 : IntKind.u64.wrap (q0 : Int) = (q0 : Int) := IntWalk.u64_in _ (by omega)
 have w1 : IntKind.u64.wrap (q1 : Int) = (q1 : Int) := IntWalk.u64_in _ (by omega)
 have w2 : IntKind.u64.wrap (q2 : Int) = (q2 : Int) := IntWalk.u64_in _ (by omega)
 have w3 : IntKind.u64.wrap (q3 : Int) = (q3 : Int) := IntWalk.u64_in _ (by omega)
 obtain ⟨t,ht⟩ : ∃ t,t = q1 + q0 / 4294967296 := ⟨_,rfl⟩
 have w4 : IntKind.u64.wrap ((q1 : Int) + (q0 : Int) / 4294967296) = (t : Int) := by rw [IntWalk.u64_in _ (by omega)]; omega
 have a2 := ael t (by omega)
 obtain ⟨t0,ht0⟩ : ∃ q,q = t % 4294967296 := ⟨_,rfl⟩
 rw [← ht0] at a2
 obtain ⟨s,hs1⟩ : ∃ s,s = t0 + q2 := ⟨_,rfl⟩
 have w5 : IntKind.u64.wrap ((t0 : Int) + (q2 : Int)) = (s : Int) := by rw [IntWalk.u64_in _ (by omega)]; omega
 obtain ⟨u,hu⟩ : ∃ u,u = q3 + t / 4294967296 := ⟨_,rfl⟩
 have w6 : IntKind.u64.wrap ((q3 : Int) + (t : Int) / 4294967296) = (u : Int) := by rw [IntWalk.u64_in _ (by omega)]; omega
 obtain ⟨v,hv⟩ : ∃ v,v = u + s / 4294967296 := ⟨_,rfl⟩
 have w7 : IntKind.u64.wrap ((u : Int) + (s : Int) / 4294967296) = (v : Int) := by rw [IntWalk.u64_in _ (by omega)]; omega
 have w8 : IntKind.u64.wrap (q : Int) = ((adi x y : Nat) : Int) := by rw [HR.out.2,IntKind.wrap_u64]; omega
 have hvv : v = ahz x y := by rw [HR.out.1]; omega
 have HV := Lib.hid hvv
 clear hvv ht ht0 hs1 hu hv hs p0 p1 p2 p3
 go_enter Tryz.func123,Tryz.ntmps123
 go_wp2
 go_ret2
 exact ⟨by rw [← HV.out]; rfl,rfl⟩
theorem azi (a x : Nat) (ha : a < oz) (hx : x < 2 ^ 64) (w : World) :
  Calls Tryz.prog 146 #[.agg (ig .u64 64 4 a),.int .u64 x] w fun e w' => e = .returned (.tuple #[.agg (ig .u64 64 4 (a * x % oz)),.bool (decide (oz ≤ a * x))]) ∧ Fr F0 w w' := by
 have HA := Lib.hid (aEe a x ha)
 have HC := Lib.hid (aEg a x ha)
 clear ha
 go_enter Tryz.func146,Tryz.ntmps146
 go_wp2
 obtain ⟨W1,hW1⟩ : ∃ W1,W1 = ((w.alloc (.cells (ig .u64 64 4 a) 134)).alloc (.cells (ig .u64 64 4 0) 134)).alloc (.cells (ig .u64 64 4 0) 134) := ⟨_,rfl⟩
 refine bg W1 hW1 ?_
 have f1 : Fr F0 w W1 := by rw [hW1]; exact (((Fr.refl F0 w).alloc _).alloc _).alloc _
 obtain ⟨r0,r1,r2⟩ := aon w (.cells (ig .u64 64 4 a) 134) (.cells (ig .u64 64 4 0) 134) (.cells (ig .u64 64 4 0) 134)
 rw [← hW1] at r0 r1 r2
 clear hW1
 generalize hg0 : w.heap.size = g0 at *
 generalize hg1 : g0 + 1 = g1 at *
 generalize hg2 : g1 + 1 = g2 at *
 have n1 : g1 ≠ g2 := by omega
 have HG := Lib.hid (show w.heap.size ≤ g1 ∧ w.heap.size ≤ g2 by omega)
 clear hg0 hg1 hg2 r0
 go_loopw [7,15] (fun cv iv wr => ∃ i : Nat,i ≤ 4 ∧ iv = .int .i64 i ∧ cv = .int .u64 (mlH a x i : Nat) ∧ wr.heap[g1]? = some (.cells (ig .u64 64 4 0) 134 (0,0)) ∧ wr.heap[g2]? = some (.cells (ig .u64 64 4 (mlS a x i)) 134 (0,0)) ∧ Fr F0 w wr) (fun cv iv _ => 4 - (intOf iv).toNat)
 case atStart => exact ⟨0,by omega,rfl,by rw [arj]; rfl,r1,by rw [aAp]; exact r2,f1⟩
 case round =>
  clear r1 r2 f1
  obtain ⟨i,hi,rfl,rfl,r1,r2,f1⟩ := hrel
  by_cases hi4 : i < 4
  ·have li : (i : Int) < 4 := by omega
   have HS := Lib.hid (ari a x i)
   have HN := Lib.hid (ark a x i)
   have hl := aqv a x i
   have hh := aJq a x (i + 1) hx
   rw [HN.out] at hh
   have hw : IntKind.u64.wrap ((ahz (dgt 64 a i) x : Nat) + (alg (adi (dgt 64 a i) x) (mlH a x i) 0 : Nat) : Int) = (mlH a x (i + 1) : Nat) := by
    rw [HN.out,IntWalk.u64_in _ (by omega)]; omega
   have hdl := abf 64 a i
   go_wp2_with ((with_reducible refine (amn _ _ (by omega) (by omega) _).mono ?_); rintro e w' ⟨rfl,rfl⟩)
   go_roundw
   case rel =>
    refine ⟨i + 1,by omega,by go_num,rfl,?_,?_,?_⟩
    ·rw [bn _ _ _ _ _ n1]; exact r1
    ·rw [aov r2 hl (aem _ _ _),HS.out]
    ·exact f1.setCell (p := ⟨g2,i,none⟩) (fun h => by have := HG.out; simp only at h; omega) _
   case measure => simp [intOf]; omega
  ·obtain rfl : i = 4 := by omega
   rw [HA.out] at r2
   have hb0 := HC.out
   go_wp2
   refine bodyPost_ret (abl rfl _ _ g1 _ _ _ _ rfl (by rw [bf,r1]; rfl) Tryz.underlying134 rfl (by rw [Tryz.szWide]; rfl)) rfl ⟨?_,?_⟩
   ·rw [← hb0,← bne0]; rfl
   ·exact f1.setRow (fun h => by have := HG.out; omega) _
theorem Tryz.infoU64 : (Tryz.prog.info? 23).map (fun i => (i.zero,i.size,i.bytes)) = some (some (.int .u64 0),1,8) := by kernel_rfl
def U64 (x : Nat) : Value := .int .u64 (x : Int)
def Us (w : World) (a : Option Addr) (c : Nat) (l : List Nat) : Prop := Sl w 1 a c l.length (l.map U64)
def aoj (w : World) (v : Value) (l : List Nat) : Prop := w.ownsRow 0 23 1 v l.length (l.map U64)
theorem aoj.us {w : World} {a : Option Addr} {n c : Nat} {l : List Nat} (h : aoj w (.slice a n c) l) : n = l.length ∧ Us w a c l := by
 obtain ⟨rfl,hs⟩ := Sl.aef h
 exact ⟨rfl,hs⟩
theorem aoj.lt {w : World} {v : Value} {l : List Nat} (h : aoj w v l) : ∀ k,v.ownBlock = some k → k < w.heap.size := fun k hk => (World.ownsRow.lt h k hk).2
theorem aoj.fr {S : Nat → Prop} {w w' : World} {v : Value} {l : List Nat} (h : aoj w v l) (hf : Fr S w w') (hs : ∀ k,v.ownBlock = some k → ¬ S k) : aoj w' v l := by
 refine ⟨h.1,?_⟩
 rcases h.2 with hn | ⟨g,cap,cur,rfl,hb,hg,r⟩
 ·exact .inl hn
 ·exact .inr ⟨g,cap,cur,rfl,hb,hf.keeps (hs g rfl) hg,r⟩
theorem Us.one {l : List Nat} : ∀ u ∈ l.map U64,u.oneCell' = true := by
 intro u hu
 simp only [List.mem_map] at hu
 obtain ⟨x,_,rfl⟩ := hu
 rfl
theorem Us.get {w : World} {a : Option Addr} {c : Nat} {l : List Nat} (h : Us w a c l) (j : Nat) (hj : j < l.length) : ∃ b off,a = some ⟨b,off,none⟩ ∧ Obj.cellAt (off + j) w.heap[b]? = some (.int .u64 (l.getD j 0 : Nat)) := by
 obtain ⟨b,off,e,hc⟩ := h.cell j (U64 (l.getD j 0)) (by simp [List.getElem?_map,List.getElem?_eq_getElem hj,List.getD])
 exact ⟨b,off,e,by rw [← gq]; exact hc⟩
theorem Us.fr {w w' : World} {a : Option Addr} {c : Nat} {l : List Nat} (h : Us w a c l) (f : Fr F0 w w') : Us w' a c l := Sl.fr h f fun _ _ f => f
theorem ad3 {w : World} {ops : Array Oper} {rest : List Oper} {o : Oper} {a : Act} {Q : Exit → Act → World → Prop} (hgd : o.guard = none) (s x : Operand)
  (ho : o.op = .call { callee := .builtin .append,args := #[s,x],argTypes := #[181,181] })
  (v : Value) (b0 : List Nat) (hs : a.eval s = v) (hown : aoj w v b0) (ad : Option Addr) (m c : Nat) (l : List Nat) (hx : a.eval x = .slice ad m c) (hsl : Us w ad c l) (hm : m = l.length)
  (hb : b0.length + l.length ≤ 1000000)
  (h : ∀ a' c' w',aoj w' (.slice a' (b0.length + l.length) c') (b0 ++ l) → w.grownBy w' v.ownBlock → (∀ k,aqn a' = some k → v.ownBlock = some k ∨ w.heap.size ≤ k) →
   wpList Tryz.prog ops Q rest (a.put o.dst (.slice a' (b0.length + l.length) c')) w') : wpList Tryz.prog ops Q (o :: rest) a w := by
 subst hm
 obtain ⟨i0,hi,hz0,hz1,hz2⟩ := info_parts Tryz.infoU64
 refine ais hgd s x 181 ho 23 i0 (.int .u64 0) 1 8 Tryz.underlying181 hi hz0 hz1 hz2 rfl (by decide) v _ _ hs hown ad c _ _ hx hsl Us.one (by unfold maxLen; omega) (by omega) ?_
 intro a' c' w' h1 h2 h3
 exact h a' c' w' (by simpa [aoj] using h1) h2 h3
theorem Us.aio (w : World) (x : Nat) : Us (w.alloc (.cells #[.int .u64 (x : Int)] 23)) (some ⟨w.heap.size,0,none⟩) 1 [x] :=
 ⟨rfl,Nat.le_refl _,by unfold maxLen; omega,(fun e => by cases e),fun j u hj => ⟨w.heap.size,0,rfl,by
  rw [Nat.zero_add,cell_of_row _ _ j _ _ _ (heap_alloc_new w _)]
  match j,hj with
  |0,hj => simpa [U64] using hj⟩⟩
def ds (n x : Nat) : List Nat := (List.range n).map (dgt 16 x)
theorem jo (n x : Nat) : (ds n x).length = n := by simp [ds]
theorem ajx (n x : Nat) : ds (n + 1) x = ds n x ++ [dgt 16 x n] := by simp [ds,List.range_succ]
theorem awg (n x i : Nat) (h : i < n) : (ds n x).getD i 0 = dgt 16 x i := by simp [ds,List.getD,h]
def lg (x : Nat) : Nat := if x = 0 then 0 else x.log2 / 16 + 1
theorem adu (x : Nat) : x < 2 ^ (16 * lg x) := by
 unfold lg
 split
 ·subst x; decide
 ·exact Nat.lt_of_lt_of_le Nat.lt_log2_self (Nat.pow_le_pow_right (by omega) (by omega))
theorem aI2 {x : Nat} (h : 0 < lg x) : 2 ^ (16 * (lg x - 1)) ≤ x := by
 unfold lg at h ⊢
 split at h
 ·omega
 ·rename_i h0
  rw [if_neg h0]
  exact Nat.le_trans (Nat.pow_le_pow_right (by omega) (by omega)) (Nat.log2_self_le h0)
theorem afm {x n : Nat} (h : x < 2 ^ (16 * n)) : lg x ≤ n := by
 refine Nat.le_of_not_lt fun hn => ?_
 have h1 := aI2 (x := x) (by omega)
 have h2 : 2 ^ (16 * n) ≤ 2 ^ (16 * (lg x - 1)) := Nat.pow_le_pow_right (by omega) (by omega)
 omega
theorem ao0 : lg 0 = 0 := rfl
theorem avj {x : Nat} (h : x ≠ 0) : 0 < lg x := by unfold lg; rw [if_neg h]; omega
theorem aJz {x : Nat} (h : lg x = 0) : x = 0 := Decidable.byContradiction fun h0 => by have := avj h0; omega
def dg (x : Nat) : List Nat := ds (lg x) x
theorem ac2 (x : Nat) : (dg x).length = lg x := jo _ _
theorem atp {x n i : Nat} (h : x < 2 ^ (16 * n)) (hi : n ≤ i) : dgt 16 x i = 0 := by
 unfold dgt
 rw [Nat.div_eq_of_lt (Nat.lt_of_lt_of_le h (Nat.pow_le_pow_right (by omega) (by omega)))]
theorem ajy (x i : Nat) : (dg x).getD i 0 = dgt 16 x i := by
 by_cases h : i < lg x
 ·exact awg _ _ _ h
 ·rw [atp (adu x) (by omega)]
  simp [List.getD,List.getElem?_eq_none (show (dg x).length ≤ i by rw [ac2]; omega)]
theorem aE8 {x n : Nat} (h : x < 2 ^ (16 * (n + 1))) : dgt 16 x n = x / 2 ^ (16 * n) := by
 unfold dgt
 refine Nat.mod_eq_of_lt ?_
 rw [Nat.div_lt_iff_lt_mul (Nat.two_pow_pos _),← Nat.pow_add]
 rwa [show 16 + 16 * n = 16 * (n + 1) by omega]
def vlen : Value → Nat | .slice _ m _ => m | _ => 0
abbrev Ns (w : World) (a : Option Addr) (c : Nat) (x : Nat) : Prop := Us w a c (dg x)
def NN (x : Nat) (w : World) (e : Ending) (w' : World) : Prop := ∃ a c,e = .returned (.slice a (lg x) c) ∧ Ns w' a c x ∧ Fr F0 w w'
theorem ax3 (a : Option Addr) (n c : Nat) (l : List Nat) (i : Nat) (hn : n = l.length) (w : World) (h : Us w a c l) :
  Calls Tryz.prog 151 #[.slice a n c,.int .i64 (i : Int)] w fun e w' => e = .returned (.int .u64 (l.getD i 0 : Nat)) ∧ w' = w := by
 subst hn
 by_cases hi : i < l.length
 ·obtain ⟨b,off,rfl,hc⟩ := h.get i hi
  have l1 : (i : Int) < l.length := by omega
  clear h
  generalize l.getD i 0 = v at *
  go_enter Tryz.func151,Tryz.ntmps151
  go_wp2
  go_ret
  exact ⟨rfl,rfl⟩
 ·have l1 : ¬ (i : Int) < l.length := by omega
  have e : l.getD i 0 = 0 := by simp [List.getD,List.getElem?_eq_none (show l.length ≤ i by omega)]
  rw [e]
  clear h e
  go_enter Tryz.func151,Tryz.ntmps151
  go_wp2
  go_ret
  exact ⟨rfl,rfl⟩
theorem agl (a : Option Addr) (n c x : Nat) (i : Nat) (hn : n = lg x) (w : World) (h : Ns w a c x) :
  Calls Tryz.prog 151 #[.slice a n c,.int .i64 (i : Int)] w fun e w' => e = .returned (.int .u64 (dgt 16 x i : Nat)) ∧ w' = w := by
 have := ax3 a n c (dg x) i (by rw [ac2,hn]) w h
 rwa [ajy] at this
theorem Us.cut {w : World} {b off c n x : Nat} (h : Us w (some ⟨b,off,none⟩) c (ds (n + 1) x)) : Us w (some ⟨b,off,none⟩) c (ds n x) := by
 have hr := h.room
 rw [jo] at hr
 refine ⟨by simp,by rw [jo]; omega,h.most,h.nil,fun j u hj => ?_⟩
 refine h.cell j u ?_
 rw [ajx,List.map_append]
 rw [List.getElem?_append_left]
 ·exact hj
 ·exact (List.getElem?_eq_some_iff.1 hj).1
theorem agy (n x : Nat) (a : Option Addr) (c : Nat) (hx : x < 2 ^ (16 * n)) (hn : n ≤ 1000000) (w : World) (h : Us w a c (ds n x)) :
  Calls Tryz.prog 173 #[.slice a n c] w fun e w' => (∃ c,e = .returned (.slice a (lg x) c) ∧ Ns w a c x) ∧ w' = w := by
 go_enter Tryz.func173,Tryz.ntmps173
 go_wp2
 go_loopw [0] (fun v wr => wr = w ∧ ∃ m c,m ≤ n ∧ x < 2 ^ (16 * m) ∧ v = .slice a m c ∧ Us w a c (ds m x)) (fun v _ => vlen v)
 case atStart => exact ⟨rfl,n,c,Nat.le_refl _,hx,rfl,h⟩
 case round =>
  obtain ⟨rfl,m,c,hm,hxm,rfl,hu⟩ := hrel
  cases m with
  |zero =>
   have h0 : x = 0 := by simp at hxm; omega
   subst h0
   go_wp2
   go_ret
   exact ⟨⟨c,rfl,hu⟩,rfl⟩
  |succ m =>
   obtain ⟨b,off,rfl,hc⟩ := hu.get m (by rw [jo]; omega)
   rw [awg _ _ _ (by omega),aE8 hxm] at hc
   have l1 : (0 : Int) < ((m + 1 : Nat) : Int) := by omega
   have l2 : IntKind.i64.wrap (((m + 1 : Nat) : Int) - 1) = (m : Int) := by rw [IntWalk.i64_in _ (by omega)]; omega
   have l3 : ((m : Nat) : Int) < ((m + 1 : Nat) : Int) := by omega
   have hroom := hu.room
   rw [jo] at hroom
   have HU := Lib.hid hu
   have HX := Lib.hid hxm
   have HM := Lib.hid hm
   clear hu hxm hm hx h
   generalize hM : m + 1 = M at *
   by_cases hz : x / 2 ^ (16 * m) = 0
   ·rw [hz] at hc
    have hlt : x < 2 ^ (16 * m) := by
     rcases Nat.lt_or_ge x (2 ^ (16 * m)) with h | h
     ·exact h
     ·have := Nat.div_pos h (Nat.two_pow_pos _); omega
    have HLT := Lib.hid hlt
    clear hlt hz
    have HMM := Lib.hid hM
    clear hM
    go_wp2
    go_roundw
    case rel =>
     have := HMM.out; subst this
     exact ⟨trivial,m,_,by have := HM.out; omega,HLT.out,rfl,HU.out.cut⟩
    case measure => have := HMM.out; simp [vlen]; omega
   ·generalize hv : x / 2 ^ (16 * m) = v at *
    have l4 : ¬ (v : Int) = 0 := by omega
    have he : lg x = M := by
     have h1 := afm (n := M) HX.out
     have h2 : ¬ lg x ≤ m := fun hle => by
      have := adu x
      have h3 : 2 ^ (16 * lg x) ≤ 2 ^ (16 * m) := Nat.pow_le_pow_right (by omega) (by omega)
      rw [Nat.div_eq_of_lt (by omega)] at hv
      omega
     omega
    have HE := Lib.hid he
    have HMM := Lib.hid hM
    clear he hM hv
    go_wp2
    go_ret
    refine ⟨⟨c,by rw [HE.out]; rfl,?_⟩,rfl⟩
    have := HU.out
    unfold Ns dg
    rw [HE.out]
    exact this
theorem aj2 (n x : Nat) (a : Option Addr) (c : Nat) (hx : x < 2 ^ (16 * n)) (hn : n ≤ 1000000) (w : World) (h : Us w a c (ds n x)) :
  Calls Tryz.prog 173 #[.slice a n c] w fun e w' => (∃ a c,e = .returned (.slice a (lg x) c) ∧ Ns w a c x) ∧ w' = w :=
 (agy n x a c hx hn w h).mono fun e w' ⟨⟨c',h1,h2⟩,h3⟩ => ⟨⟨a,c',h1,h2⟩,h3⟩
def Row (w : World) (l : List Nat) (v : Value) (wr : World) : Prop := ∃ a c,v = .slice a l.length c ∧ aoj wr (.slice a l.length c) l ∧ ∀ g,aqn a = some g → w.heap.size ≤ g
theorem Row.nil (w : World) (T : TypeId) : Row w [] (.slice (some ⟨w.heap.size,0,none⟩) 0 0) (w.alloc (.cells #[] 23)) :=
 ⟨_,_,rfl,World.ownsRow_made w #[] 0 (Nat.zero_le _) (Nat.zero_le _) rfl,fun g e => by cases e; exact Nat.le_refl _⟩
theorem Row.app {w : World} {l : List Nat} {a : Option Addr} {n c x : Nat} {wr : World} {a3 : Option Addr} {c3 : Nat} {w3 : World} (hb : ∀ g,aqn a = some g → w.heap.size ≤ g) (f : Fr F0 w wr)
  (ho : aoj w3 (.slice a3 (l.length + 1) c3) (l ++ [x])) (h : ∀ k,aqn a3 = some k → (Value.slice a n c).ownBlock = some k ∨ (wr.alloc (.cells #[.int .u64 (x : Int)] 23)).heap.size ≤ k) :
  Row w (l ++ [x]) (.slice a3 (l.length + 1) c3) w3 := by
 refine ⟨a3,c3,by simp,by simpa using ho,fun g hg' => ?_⟩
 rcases h g hg' with h | h
 ·exact hb g (by rw [← aen]; exact h)
 ·have := f.size; simp only [World.size_alloc] at h; omega
theorem Row.frame {w wr w3 : World} {a : Option Addr} {n c : Nat} {o : Obj} (hb : ∀ g,aqn a = some g → w.heap.size ≤ g) (f : Fr F0 w wr) (hg : (wr.alloc o).grownBy w3 (Value.slice a n c).ownBlock) : Fr F0 w w3 :=
 (f.alloc o).grown hg fun g e hl => by
  have := hb g (by rw [← aen]; exact e)
  omega
theorem aer (x y : Nat) (a1 : Option Addr) (c1 : Nat) (a2 : Option Addr) (c2 : Nat) (hlx : lg x ≤ 10000) (hly : lg y ≤ 10000) (w : World) (hx : Ns w a1 c1 x) (hy : Ns w a2 c2 y) :
  Calls Tryz.prog 175 #[.slice a1 (lg x) c1,.slice a2 (lg y) c2] w fun e w' => NN (x + y) w e w' := by
 have HX := Lib.hid hx
 have HY := Lib.hid hy
 have HLX := Lib.hid (show x < pw (lg x) from adu x)
 have HLY := Lib.hid (show y < pw (lg y) from adu y)
 clear hx hy
 generalize hnx : lg x = nx at *
 generalize hny : lg y = ny at *
 have HNX := Lib.hid hnx
 have HNY := Lib.hid hny
 clear hnx hny
 go_enter Tryz.func175,Tryz.ntmps175
 go_wp2_with fail
 go_loopw [5,6,7] (fun v cv iv wr => ∃ i : Nat,i ≤ nx + ny + 1 ∧ iv = .int .i64 i ∧ cv = .int .u64 (caC x y i : Nat) ∧ Row w (ds i (x + y)) v wr ∧ Fr F0 w wr) (fun _ _ iv _ => nx + ny + 2 - (intOf iv).toNat)
 case atStart => exact ⟨0,Nat.zero_le _,rfl,by rw [aA9]; rfl,Row.nil w 0,(Fr.refl F0 w).alloc _⟩
 case round =>
  obtain ⟨i,hi,rfl,rfl,⟨a,c,rfl,hown,hblk⟩,hf⟩ := hrel
  rw [jo] at hown ⊢
  have HB := Lib.hid hblk
  have HF := Lib.hid hf
  have HI := Lib.hid hi
  have hcl := aKm x y i
  have dx := aa1 x i
  have dy := aa1 y i
  obtain ⟨hs1,hs2⟩ := aFh x y i
  have hend : ¬ i < nx → ¬ i < ny → caC x y i = 0 → x + y < pw i := fun h1 h2 h3 => aKl (Nat.lt_of_lt_of_le HLX.out (aed (by omega))) (Nat.lt_of_lt_of_le HLY.out (aed (by omega))) h3
  have hpos : ¬ i < nx → ¬ i < ny → 0 < caC x y i → i ≤ nx + ny := fun h1 h2 h3 => by
   refine Nat.le_of_not_lt fun h => ?_
   have e1 := Nat.lt_of_lt_of_le HLX.out (aed (show nx ≤ nx + ny by omega))
   have e2 := Nat.lt_of_lt_of_le HLY.out (aed (show ny ≤ nx + ny by omega))
   have e3 := agt (nx + ny)
   have e4 := aed (show nx + ny + 1 ≤ i by omega)
   have e5 : x + y < pw i := by have := abp (nx + ny); omega
   have e6 : caC x y i = 0 := by
    unfold caC
    rw [Nat.mod_eq_of_lt (by omega),Nat.mod_eq_of_lt (by omega),Nat.div_eq_of_lt e5]
   omega
  generalize hcv : caC x y i = cv at *
  generalize hd1 : dgt 16 x i = d1 at *
  generalize hd2 : dgt 16 y i = d2 at *
  have q1 := agl a1 nx c1 x i HNX.out.symm wr (HX.out.fr HF.out)
  have q2 := agl a2 ny c2 y i HNY.out.symm wr (HY.out.fr HF.out)
  rw [hd1] at q1
  rw [hd2] at q2
  have HQ1 := Lib.hid q1
  have HQ2 := Lib.hid q2
  clear q1 q2
  have HD1 := Lib.hid hd1
  have HD2 := Lib.hid hd2
  have HCV := Lib.hid hcv
  have HE := Lib.hid hend
  have HP := Lib.hid hpos
  clear hblk hf hi hcv hd1 hd2 hend hpos
  have hi' : i ≤ 20001 := by have := HI.out; omega
  have hc : ((i < nx) ∨ (¬ i < nx ∧ i < ny) ∨ (¬ i < nx ∧ ¬ i < ny ∧ 0 < cv)) ∨ (¬ i < nx ∧ ¬ i < ny ∧ cv = 0) := by omega
  rcases hc with hc | ⟨h1,h2,h3⟩
  ·have hroom : i ≤ nx + ny := by
    rcases hc with h | ⟨_,h⟩ | ⟨h1,h2,h3⟩
    ·omega
    ·omega
    ·exact HP.out h1 h2 h3
   have HR := Lib.hid hroom
   obtain ⟨s1,hs1'⟩ : ∃ s1,cv + d1 = s1 := ⟨_,rfl⟩
   obtain ⟨sm,hsm⟩ : ∃ sm,s1 + d2 = sm := ⟨_,rfl⟩
   obtain ⟨r,hr⟩ : ∃ r,sm % 65536 = r := ⟨_,rfl⟩
   obtain ⟨z,hz⟩ : ∃ z,sm / 65536 = z := ⟨_,rfl⟩
   have m1 : IntKind.u64.wrap ((cv : Int) + d1) = (s1 : Int) := by rw [IntWalk.u64_in _ (by omega)]; omega
   have m2 : IntKind.u64.wrap ((s1 : Int) + d2) = (sm : Int) := by rw [IntWalk.u64_in _ (by omega)]; omega
   have mr : (sm : Int) % 65536 = (r : Int) := by omega
   have mz : (sm : Int) / 65536 = (z : Int) := by omega
   rw [hs1',hsm,hr] at hs1
   rw [hs1',hsm,hz] at hs2
   have wz : IntKind.u64.wrap (z : Int) = (z : Int) := IntWalk.u64_in _ (by omega)
   have HS1 := Lib.hid hs1
   have HS2 := Lib.hid hs2
   clear hs1 hs2 hs1' hsm hr hz hroom hcl dx dy
   rcases hc with h1 | ⟨h1,h2⟩ | ⟨h1,h2,h3⟩
   case' inl => have l1 : (i : Int) < (nx : Int) := by omega
   case' inr.inl => have l1 : ¬ (i : Int) < (nx : Int) := by omega
   case' inr.inl => have l2 : (i : Int) < (ny : Int) := by omega
   case' inr.inr => have l1 : ¬ (i : Int) < (nx : Int) := by omega
   case' inr.inr => have l2 : ¬ (i : Int) < (ny : Int) := by omega
   case' inr.inr => have l3 : (0 : Int) < (cv : Int) := by omega
   all_goals
    go_wp2_with (first | ((with_reducible refine HQ1.out.mono ?_); rintro e w' ⟨rfl,hw⟩; have hw := hw.symm; subst hw) | ((with_reducible refine HQ2.out.mono ?_); rintro e w' ⟨rfl,hw⟩; have hw := hw.symm; subst hw) | (at_builtin; refine ad3 rfl _ _ rfl _ (ds i (x + y)) rfl (hown.fr ((Fr.refl F0 wr).alloc _) (fun _ _ f => f)) _ _ _ [r] rfl (Us.aio wr r) rfl (by rw [jo]; simp; omega) ?_; intro a3 c3 w3 ho hg hb) | fail)
    go_roundw
    case rel =>
     rw [jo] at *
     refine ⟨i + 1,by have := HR.out; omega,by go_num,by rw [HS2.out],?_,Row.frame HB.out HF.out hg⟩
     rw [ajx,← HS1.out]
     have := Row.app (l := ds i (x + y)) HB.out HF.out (by rw [jo]; exact ho) hb
     rwa [jo] at this
    case measure => have := HR.out; simp [intOf]; omega
  ·have l1 : ¬ (i : Int) < (nx : Int) := by omega
   have l2 : ¬ (i : Int) < (ny : Int) := by omega
   have HT := Lib.hid (HE.out h1 h2 h3)
   clear HE HP hs1 hs2 hcl
   subst h3
   have HQ3 := Lib.hid (aj2 i (x + y) a c HT.out (by omega) wr hown.us.2)
   go_wp2_with ((with_reducible refine HQ3.out.mono ?_); rintro e w' ⟨⟨a5,c5,rfl,hn⟩,hw⟩; have hw := hw.symm; subst hw)
   go_ret
   exact ⟨a5,c5,rfl,hn,HF.out⟩
theorem aly (x y : Nat) (a1 : Option Addr) (c1 : Nat) (a2 : Option Addr) (c2 : Nat) (hlx : lg x ≤ 10000) (hle : y ≤ x) (w : World) (hx : Ns w a1 c1 x) (hy : Ns w a2 c2 y) :
  Calls Tryz.prog 187 #[.slice a1 (lg x) c1,.slice a2 (lg y) c2] w fun e w' => ∃ a c,e = .returned (.slice a (lg (x - y)) c) ∧ Ns w' a c (x - y) ∧ (∀ g,aqn a = some g → w.heap.size ≤ g) ∧ Fr F0 w w' := by
 have HX := Lib.hid hx
 have HY := Lib.hid hy
 have HLX := Lib.hid (show x < pw (lg x) from adu x)
 have HLE := Lib.hid hle
 clear hx hy hle
 generalize hnx : lg x = nx at *
 generalize hny : lg y = ny at *
 have HNX := Lib.hid hnx
 have HNY := Lib.hid hny
 clear hnx hny
 go_enter Tryz.func187,Tryz.ntmps187
 go_wp2_with fail
 go_loopw [5,6,12] (fun v cv iv wr => ∃ i : Nat,i ≤ nx ∧ iv = .int .i64 i ∧ cv = .int .u64 (bwC x y i : Nat) ∧ Row w (ds i (x - y)) v wr ∧ Fr F0 w wr) (fun _ _ iv _ => nx - (intOf iv).toNat)
 case atStart => exact ⟨0,Nat.zero_le _,rfl,by rw [aBa]; rfl,Row.nil w 0,(Fr.refl F0 w).alloc _⟩
 case round =>
  obtain ⟨i,hi,rfl,rfl,⟨a,c,rfl,hown,hblk⟩,hf⟩ := hrel
  rw [jo] at hown ⊢
  have HB := Lib.hid hblk
  have HF := Lib.hid hf
  have HI := Lib.hid hi
  have hcl := aB9 x y i
  have dx := aa1 x i
  have dy := aa1 y i
  obtain ⟨hs1,hs2⟩ := aFj x y i HLE.out
  generalize hcv : bwC x y i = cv at *
  generalize hd1 : dgt 16 x i = d1 at *
  generalize hd2 : dgt 16 y i = d2 at *
  have q1 := agl a1 nx c1 x i HNX.out.symm wr (HX.out.fr HF.out)
  have q2 := agl a2 ny c2 y i HNY.out.symm wr (HY.out.fr HF.out)
  rw [hd1] at q1
  rw [hd2] at q2
  have HQ1 := Lib.hid q1
  have HQ2 := Lib.hid q2
  clear q1 q2
  clear hblk hf hi hcv hd1 hd2
  have hi' : i ≤ 10000 := by have := HI.out; omega
  by_cases h1 : i < nx
  ·have HR := Lib.hid h1
   obtain ⟨s1,hs1'⟩ : ∃ s1,65536 + d1 = s1 := ⟨_,rfl⟩
   obtain ⟨s2,hs2'⟩ : ∃ s2,s1 - d2 = s2 := ⟨_,rfl⟩
   obtain ⟨sm,hsm⟩ : ∃ sm,s2 - cv = sm := ⟨_,rfl⟩
   obtain ⟨r,hr⟩ : ∃ r,sm % 65536 = r := ⟨_,rfl⟩
   obtain ⟨z,hz⟩ : ∃ z,sm / 65536 = z := ⟨_,rfl⟩
   obtain ⟨b,hb'⟩ : ∃ b,1 - z = b := ⟨_,rfl⟩
   have m1 : IntKind.u64.wrap (65536 + (d1 : Int)) = (s1 : Int) := by rw [IntWalk.u64_in _ (by omega)]; omega
   have m2 : IntKind.u64.wrap ((s1 : Int) - d2) = (s2 : Int) := by rw [IntWalk.u64_in _ (by omega)]; omega
   have m3 : IntKind.u64.wrap ((s2 : Int) - cv) = (sm : Int) := by rw [IntWalk.u64_in _ (by omega)]; omega
   have m4 : IntKind.u64.wrap (1 - (z : Int)) = (b : Int) := by rw [IntWalk.u64_in _ (by omega)]; omega
   have mr : (sm : Int) % 65536 = (r : Int) := by omega
   have mz : (sm : Int) / 65536 = (z : Int) := by omega
   have wz : IntKind.u64.wrap (z : Int) = (z : Int) := IntWalk.u64_in _ (by omega)
   rw [hs1',hs2',hsm,hr] at hs1
   rw [hs1',hs2',hsm,hz,hb'] at hs2
   have HS1 := Lib.hid hs1
   have HS2 := Lib.hid hs2
   clear hs1 hs2 hs1' hs2' hsm hr hz hb' hcl dx dy
   have l1 : (i : Int) < (nx : Int) := by omega
   go_wp2_with (first | ((with_reducible refine HQ1.out.mono ?_); rintro e w' ⟨rfl,hw⟩; have hw := hw.symm; subst hw) | ((with_reducible refine HQ2.out.mono ?_); rintro e w' ⟨rfl,hw⟩; have hw := hw.symm; subst hw) | (at_builtin; refine ad3 rfl _ _ rfl _ (ds i (x - y)) rfl (hown.fr ((Fr.refl F0 wr).alloc _) (fun _ _ f => f)) _ _ _ [r] rfl (Us.aio wr r) rfl (by rw [jo]; simp; omega) ?_; intro a3 c3 w3 ho hg hb) | fail)
   go_roundw
   case rel =>
    rw [jo] at *
    refine ⟨i + 1,by have := HR.out; omega,by go_num,by rw [HS2.out],?_,Row.frame HB.out HF.out hg⟩
    rw [ajx,← HS1.out]
    have := Row.app (l := ds i (x - y)) HB.out HF.out (by rw [jo]; exact ho) hb
    rwa [jo] at this
   case measure => have := HR.out; simp [intOf]; omega
  ·have l1 : ¬ (i : Int) < (nx : Int) := by omega
   have HT := Lib.hid (show x - y < pw i from Nat.lt_of_le_of_lt (Nat.sub_le _ _) (Nat.lt_of_lt_of_le HLX.out (aed (by omega))))
   clear hs1 hs2 hcl
   have HQ3 := Lib.hid (agy i (x - y) a c HT.out (by omega) wr hown.us.2)
   go_wp2_with ((with_reducible refine HQ3.out.mono ?_); rintro e w' ⟨⟨c5,rfl,hn⟩,hw⟩; have hw := hw.symm; subst hw)
   go_ret
   exact ⟨a,c5,rfl,hn,HB.out,HF.out⟩
theorem aAs (n : Nat) : madeCells (Value.int .u64 0).cells (n * 1) = ig .u64 16 n 0 := by
 apply Array.toList_inj.1
 rw [show (Value.int .u64 0).cells = #[.int .u64 0] from rfl,toList_madeCells_one,Nat.mul_one]
 unfold ig
 rw [List.toList_toArray]
 apply List.ext_getElem
 ·simp
 ·intro i h1 h2
  simp [dgt]
theorem aix (n : Nat) (z : Int) (hz : z = n) (hn : n ≤ 1000000) (w : World) :
  (Instr.makeSlice 181 (.int .i64 z) (.int .i64 z)).run Tryz.prog w = .ok (.slice (some ⟨w.heap.size,0,none⟩) n n) (w.alloc (.cells (ig .u64 16 n 0) 23)) := by
 subst hz
 obtain ⟨i0,hi,hz0,hz1,hz2⟩ := info_parts Tryz.infoU64
 have := run_make (P := Tryz.prog) w 181 23 i0 (.int .u64 0) Tryz.underlying181 hi hz0 .i64 .i64 (n : Int) (n : Int) (by omega) (Int.le_refl _) (by rw [hz2]; omega) (by omega)
 rw [hz1,Int.toNat_natCast,aAs] at this
 exact this
theorem Us.aqu {w : World} {g n V : Nat} {t : TypeId} {f : Nat × Nat} (h : w.heap[g]? = some (.cells (ig .u64 16 n V) t f)) (hn : n ≤ 1000000) : Us w (some ⟨g,0,none⟩) n (ds n V) :=
 ⟨by simp,by rw [jo]; omega,by unfold maxLen; omega,(fun e => by cases e),fun j u hj => ⟨g,0,rfl,by
  have hjn : j < n := by have := (List.getElem?_eq_some_iff.1 hj).1; simpa [jo] using this
  rw [Nat.zero_add,gq,h,jg,yt _ _ _ _ _ hjn]
  simpa [ds,hjn,U64] using hj⟩⟩
theorem axd (x y : Nat) (a1 : Option Addr) (c1 : Nat) (a2 : Option Addr) (c2 : Nat) (hlx : lg x ≤ 10000) (hly : lg y ≤ 10000) (w : World) (hx : Ns w a1 c1 x) (hy : Ns w a2 c2 y) :
  Calls Tryz.prog 153 #[.slice a1 (lg x) c1,.slice a2 (lg y) c2] w fun e w' => NN (x * y) w e w' := by
 have HX := Lib.hid hx
 have HY := Lib.hid hy
 have HLX := Lib.hid (show x < pw (lg x) from adu x)
 have HLY := Lib.hid (show y < pw (lg y) from adu y)
 clear hx hy
 generalize hnx : lg x = nx at *
 generalize hny : lg y = ny at *
 have HNX := Lib.hid hnx
 have HNY := Lib.hid hny
 clear hnx hny
 obtain ⟨n,hn⟩ : ∃ n,nx + ny + 1 = n := ⟨_,rfl⟩
 have m1 : IntKind.i64.wrap ((nx : Int) + ny) = ((nx + ny : Nat) : Int) := by rw [IntWalk.i64_in _ (by omega)]; omega
 have m2 : IntKind.i64.wrap (((nx + ny : Nat) : Int) + 1) = (n : Int) := by rw [IntWalk.i64_in _ (by omega)]; omega
 have HN := Lib.hid hn
 have hnl : n ≤ 20001 := by omega
 clear hn
 have hmk := fun w => aix n ((nx : Int) + ny + 1) (by have := HN.out; omega) (by omega) w
 go_enter Tryz.func153,Tryz.ntmps153
 go_wp2_with fail
 clear hmk m1 m2
 obtain ⟨W1,hW1⟩ : ∃ W1,W1 = w.alloc (.cells (ig .u64 16 n 0) 23) := ⟨_,rfl⟩
 refine bg W1 hW1 ?_
 have r1 : W1.heap[w.heap.size]? = some (.cells (ig .u64 16 n 0) 23 (0,0)) := by rw [hW1]; exact heap_alloc_new _ _
 have f1 : Fr F0 w W1 := by rw [hW1]; exact (Fr.refl F0 w).alloc _
 clear hW1
 generalize hg : w.heap.size = g at *
 have HG := Lib.hid hg
 clear hg
 go_loopw [19] (fun iv wr => ∃ i : Nat,i ≤ nx ∧ iv = .int .i64 i ∧ wr.heap[g]? = some (.cells (ig .u64 16 n (x % pw i * y)) 23 (0,0)) ∧ Fr F0 w wr) (fun iv _ => nx - (intOf iv).toNat)
 case atStart => exact ⟨0,Nat.zero_le _,rfl,by rw [acv,Nat.mod_one,Nat.zero_mul]; exact r1,f1⟩
 case round =>
  clear r1 f1
  obtain ⟨i,hi,rfl,r1,hf⟩ := hrel
  by_cases h1 : i < nx
  ·have l1 : (i : Int) < (nx : Int) := by omega
   obtain ⟨b,off,ea,hc⟩ := (HX.out.fr hf).get i (by rw [ac2,HNX.out]; exact h1)
   rw [ajy] at hc
   have aF8 := aa1 x i
   generalize hd : dgt 16 x i = d at *
   have HD := Lib.hid hd
   have HI := Lib.hid h1
   have hi' : i ≤ 10000 := by omega
   subst ea
   clear hd h1
   obtain ⟨w1,hw1⟩ : ∃ w1,w1 = wr := ⟨_,rfl⟩
   subst hw1
   go_wp2_with fail
   go_loopw [8,9] (fun cv kv wr => ∃ k c V : Nat,k ≤ ny + 1 ∧ c < 65536 ∧ cv = .int .u64 c ∧ kv = .int .i64 k ∧ wr.heap[g]? = some (.cells (ig .u64 16 n V) 23 (0,0)) ∧ V + pw (i + k) * c = mlP x y i d k ∧ Fr F0 w wr) (fun _ kv _ => ny + 2 - (intOf kv).toNat)
   case atStart => exact ⟨0,0,x % pw i * y,by omega,by omega,rfl,rfl,r1,by rw [aAq,Nat.mul_zero,Nat.add_zero],hf⟩
   case round =>
    clear r1 hf hc
    obtain ⟨k,c,V,hk,hc16,rfl,rfl,r1,he,hf⟩ := hrel
    have hcase : (k < ny ∨ (¬ k < ny ∧ 0 < c)) ∨ (¬ k < ny ∧ c = 0) := by omega
    rcases hcase with hcase | ⟨h2,h3⟩
    ·have hkl : k ≤ ny := by
      rcases hcase with h | ⟨h2,h3⟩
      ·omega
      ·exact aEc (x := x) (i := i) (V := V) (c := c) (by rw [HD.out]; exact he) HLY.out (by omega) h3
     have hst := aAo x y i d k V c he
     have hm2 := ml_lt hc16 (aa1 V (i + k)) aF8 (aa1 y k)
     have he16 := aa1 y k
     obtain ⟨p,hp⟩ : ∃ p,i + k = p := ⟨_,rfl⟩
     rw [hp] at hst hm2
     have ho16 := aa1 V p
     obtain ⟨s1,hs1⟩ : ∃ s1,c + dgt 16 V p = s1 := ⟨_,rfl⟩
     obtain ⟨de,hde⟩ : ∃ de,d * dgt 16 y k = de := ⟨_,rfl⟩
     rw [hs1,hde] at hst hm2
     obtain ⟨sm,hsm⟩ : ∃ sm,s1 + de = sm := ⟨_,rfl⟩
     rw [hsm] at hst hm2
     obtain ⟨r,hr⟩ : ∃ r,sm % 65536 = r := ⟨_,rfl⟩
     obtain ⟨z,hz⟩ : ∃ z,sm / 65536 = z := ⟨_,rfl⟩
     rw [hr,hz] at hst
     have mp : IntKind.i64.wrap ((i : Int) + k) = (p : Int) := by rw [IntWalk.i64_in _ (by omega)]; omega
     have lp : (p : Int) < (n : Int) := by have := HN.out; have := HI.out; omega
     have lpn : p < n := by omega
     have hdi : (d : Int) * ((dgt 16 y k : Nat) : Int) = (de : Int) := by rw [← hde,Int.natCast_mul]
     have q1 : IntKind.u64.wrap ((c : Int) + ((dgt 16 V p : Nat) : Int)) = (s1 : Int) := by rw [IntWalk.u64_in _ (by omega)]; omega
     have q2 : IntKind.u64.wrap ((d : Int) * ((dgt 16 y k : Nat) : Int)) = (de : Int) := by rw [hdi]; exact IntWalk.u64_in _ (by omega)
     have q3 : IntKind.u64.wrap ((s1 : Int) + (de : Int)) = (sm : Int) := by rw [IntWalk.u64_in _ (by omega)]; omega
     have mr : (sm : Int) % 65536 = (r : Int) := by omega
     have mz : (sm : Int) / 65536 = (z : Int) := by omega
     have aIt : r < 2 ^ 16 := by omega
     have aIs : z < 65536 := by omega
     have wz : IntKind.u64.wrap (z : Int) = (z : Int) := IntWalk.u64_in _ (by omega)
     have HST := Lib.hid hst
     have HP := Lib.hid (And.intro hp (And.intro hkl (And.intro aIt aIs)))
     clear hst hm2 hs1 hde hsm hr hz hdi hp ho16 he16 aIt aIs he hkl aF8
     have hgo : ∀ cond : Bool,True := fun _ => trivial
     rcases hcase with h2 | ⟨h2,h3⟩
     case' inl => have l2 : (k : Int) < (ny : Int) := by omega
     case' inr => have l2 : ¬ (k : Int) < (ny : Int) := by omega
     case' inr => have l3 : (0 : Int) < (c : Int) := by omega
     all_goals
      go_wp2_with fail
      refine zn (S := (fun w' => w'.heap[g]? = some (.cells (ig .u64 16 n V) 23 (0,0)) ∧ Fr F0 w w')) ?_ fun aj => ?_
      ·exact(by ((try dsimp only) <;> (exact ⟨r1,hf.drew⟩)))
      refine au 0 ?_
      refine au 1 ?_
      refine au 2 ?_
      refine au 3 ?_
      refine au 4 ?_
      refine au 5 ?_
      refine au 6 ?_
      refine au 7 ?_
      refine au 8 ?_
      refine au 9 ?_
      refine au 10 ?_
      refine zi 11 fun K hK => ?_
      go_simp
      (refine (agl a2 ny c2 y k HNY.out.symm _ (HY.out.fr aj.2)).mono ?_; rintro e w5 ⟨rfl,hw⟩; have hw := hw.symm; subst hw)
      refine rpu hK (by ((try dsimp only) <;> (exact aj))) fun aj => ?_
      clear hK K
      refine au 12 ?_
      refine au 13 ?_
      refine au 14 ?_
      refine aap ?_
      clear r1 hf hw
      obtain ⟨r1,hf⟩ := aj
      generalize wr.drew = w7 at *
      go_wp2_with fail
      go_roundw
      case rel =>
       obtain ⟨hp,hkl,aIt,aIs⟩ := HP.out
       have hg := HG.out
       refine ⟨k + 1,z,ae5 16 V p r,by omega,aIs,rfl,by go_num,?_,?_,?_⟩
       ·rw [cu,r1,jr,aei _ _ _ _ _ _ aIt]
       ·rw [← Nat.add_assoc,hp]; exact HST.out
       ·exact hf.setCell (p := ⟨g,p,none⟩) (fun h => by simp at h; omega) _
      case measure =>
       obtain ⟨hp,hkl,aIt,aIs⟩ := HP.out
       simp [intOf]; omega
    ·have l2 : ¬ (k : Int) < (ny : Int) := by omega
     have l3 : ¬ (0 : Int) < (c : Int) := by omega
     have he2 : V = x % pw (i + 1) * y := by
      have e := av5 x y i k (Nat.lt_of_lt_of_le HLY.out (aed (by omega)))
      rw [HD.out] at e
      rw [h3,Nat.mul_zero,Nat.add_zero] at he
      rw [he,e]
     subst he2
     have HR := Lib.hid r1
     have HF := Lib.hid hf
     clear he r1 hf
     go_wp2_with fail
     go_roundw
     case rel => exact ⟨i + 1,HI.out,by go_num,HR.out,HF.out⟩
     case measure => have := HI.out; simp [intOf]; omega
  ·have l1 : ¬ (i : Int) < (nx : Int) := by omega
   have HV := Lib.hid (show x % pw i * y = x * y ∧ x * y < pw n by
    obtain rfl : i = nx := by omega
    refine ⟨by rw [Nat.mod_eq_of_lt HLX.out],?_⟩
    have h1 : x * y < pw i * pw ny := Nat.mul_lt_mul'' HLX.out HLY.out
    rw [← aqt] at h1
    exact Nat.lt_of_lt_of_le h1 (aed (by have := HN.out; omega)))
   rw [HV.out.1] at r1
   have HQ3 := Lib.hid (aj2 n (x * y) (some ⟨g,0,none⟩) n HV.out.2 (by omega) wr (Us.aqu r1 (by omega)))
   go_wp2_with ((with_reducible refine HQ3.out.mono ?_); rintro e w' ⟨⟨a5,c5,rfl,hn⟩,hw⟩; have hw := hw.symm; subst hw)
   go_ret
   exact ⟨a5,c5,rfl,hn,hf⟩
theorem as6 (x : Nat) (a : Option Addr) (c : Nat) (hlx : lg x ≤ 10000) (w : World) (hx : Ns w a c x) :
  Calls Tryz.prog 190 #[.slice a (lg x) c] w fun e w' => ∃ a' c',e = .returned (.tuple #[.slice a' (lg (x / 2)) c',.int .u64 ((x % 2 : Nat) : Int)]) ∧ Ns w' a' c' (x / 2) ∧ (∀ b,aqn a' = some b → w.heap.size ≤ b) ∧ Fr F0 w w' := by
 have HX := Lib.hid hx
 have HLX := Lib.hid (show x < pw (lg x) from adu x)
 clear hx
 generalize hnx : lg x = nx at *
 have HNX := Lib.hid hnx
 clear hnx
 have hmk := fun w => aix nx (nx : Int) rfl (by omega) w
 go_enter Tryz.func190,Tryz.ntmps190
 go_wp2_with fail
 clear hmk
 obtain ⟨W1,hW1⟩ : ∃ W1,W1 = w.alloc (.cells (ig .u64 16 nx 0) 23) := ⟨_,rfl⟩
 refine bg W1 hW1 ?_
 have r1 : W1.heap[w.heap.size]? = some (.cells (ig .u64 16 nx 0) 23 (0,0)) := by rw [hW1]; exact heap_alloc_new _ _
 have f1 : Fr F0 w W1 := by rw [hW1]; exact (Fr.refl F0 w).alloc _
 clear hW1
 generalize hg : w.heap.size = g at *
 have HG := Lib.hid hg
 clear hg
 go_loopw [5,6] (fun rv iv wr => ∃ k : Nat,k ≤ nx ∧ iv = .int .i64 ((k : Int) - 1) ∧ rv = .int .u64 ((x / pw k % 2 : Nat) : Int) ∧ wr.heap[g]? = some (.cells (ig .u64 16 nx (pw k * (x / pw k / 2))) 23 (0,0)) ∧ Fr F0 w wr) (fun _ iv _ => (intOf iv + 1).toNat)
 case atStart =>
  refine ⟨nx,Nat.le_refl _,rfl,?_,?_,f1⟩
  ·rw [Nat.div_eq_of_lt HLX.out]; rfl
  ·rw [Nat.div_eq_of_lt HLX.out]; exact r1
 case round =>
  clear r1 f1
  obtain ⟨k,hk,rfl,rfl,r1,hf⟩ := hrel
  cases k with
  |zero =>
   rw [acv,Nat.one_mul,Nat.div_one] at r1
   rw [acv,Nat.div_one]
   have HQ3 := Lib.hid (agy nx (x / 2) (some ⟨g,0,none⟩) nx (Nat.lt_of_le_of_lt (Nat.div_le_self _ _) HLX.out) (by omega) wr (Us.aqu r1 (by omega)))
   generalize hrr : x % 2 = rr at *
   have HRR := Lib.hid hrr
   clear hrr
   go_wp2_with ((with_reducible refine HQ3.out.mono ?_); rintro e w' ⟨⟨c5,rfl,hn⟩,hw⟩; have hw := hw.symm; subst hw)
   go_ret2
   exact ⟨some ⟨g,0,none⟩,c5,by rw [HRR.out]; rfl,hn,(fun b e => by have := HG.out; simp only [aqn,Option.some.injEq] at e; omega),hf⟩
  |succ j =>
   obtain ⟨b,off,ea,hc⟩ := (HX.out.fr hf).get j (by rw [ac2,HNX.out]; omega)
   rw [ajy] at hc
   subst ea
   obtain ⟨hs1,hs2⟩ := axz x j _ rfl
   have aF8 := aa1 x j
   have hr2 : x / pw (j + 1) % 2 < 2 := Nat.mod_lt _ (by omega)
   generalize x / pw (j + 1) % 2 = rr at *
   generalize pw (j + 1) * (x / pw (j + 1) / 2) = V at *
   generalize dgt 16 x j = d at *
   obtain ⟨m,hm⟩ : ∃ m,rr * 65536 = m := ⟨_,rfl⟩
   obtain ⟨t,ht⟩ : ∃ t,m + d = t := ⟨_,rfl⟩
   obtain ⟨v,hv⟩ : ∃ v,t / 2 = v := ⟨_,rfl⟩
   obtain ⟨u,hu⟩ : ∃ u,t % 2 = u := ⟨_,rfl⟩
   rw [hm,ht,hv] at hs1
   rw [hm,ht,hu] at hs2
   have m1 : IntKind.u64.wrap ((rr : Int) * 65536) = (m : Int) := by rw [IntWalk.u64_in _ (by omega)]; omega
   have m2 : IntKind.u64.wrap ((m : Int) + d) = (t : Int) := by rw [IntWalk.u64_in _ (by omega)]; omega
   have m3 : (t : Int) / 2 = (v : Int) := by omega
   have m4 : (t : Int) % 2 = (u : Int) := by omega
   have wv : IntKind.u64.wrap (v : Int) = (v : Int) := IntWalk.u64_in _ (by omega)
   have wu : IntKind.u64.wrap (u : Int) = (u : Int) := IntWalk.u64_in _ (by omega)
   have lj : (j : Int) < (nx : Int) := by omega
   have ljn : j < nx := by omega
   have HV := Lib.hid (And.intro hs1 (And.intro hs2 (And.intro (show v < 2 ^ 16 by omega) hk)))
   have hj : j ≤ 10000 := by omega
   rw [show ((j + 1 : Nat) : Int) - 1 = (j : Int) by omega]
   clear hs1 hs2 hm ht hv hu aF8 hr2 hk
   go_wp2_with fail
   go_roundw
   case rel =>
    obtain ⟨hs1,hs2,hv16,hk⟩ := HV.out
    have hg := HG.out
    refine ⟨j,by omega,rfl,by rw [m4,hs2],?_,?_⟩
    ·rw [cu,r1,jr,aei _ _ _ _ _ _ hv16,hs1]
    ·exact hf.setCell (p := ⟨g,j,none⟩) (fun h => by simp at h; omega) _
   case measure => simp [intOf]
theorem arl {x y k : Nat} (h : x / pw k < y / pw k) : x < y := by
 refine Nat.lt_of_not_le fun hl => ?_
 have := Nat.div_le_div_right (c := pw k) hl
 omega
def aea (x y : Nat) : Int := if x < y then -1 else if y < x then 1 else 0
theorem acz (x y : Nat) (a1 : Option Addr) (c1 : Nat) (a2 : Option Addr) (c2 : Nat) (hlx : lg x ≤ 10000) (hly : lg y ≤ 10000) (w : World) (hx : Ns w a1 c1 x) (hy : Ns w a2 c2 y) :
  Calls Tryz.prog 133 #[.slice a1 (lg x) c1,.slice a2 (lg y) c2] w fun e w' => e = .returned (.int .i64 (aea x y)) ∧ w' = w := by
 have HX := Lib.hid hx
 have HY := Lib.hid hy
 have HLX := Lib.hid (show x < pw (lg x) from adu x)
 have HLY := Lib.hid (show y < pw (lg y) from adu y)
 clear hx hy
 generalize hnx : lg x = nx at *
 generalize hny : lg y = ny at *
 have HNX := Lib.hid hnx
 have HNY := Lib.hid hny
 clear hnx hny
 go_enter Tryz.func133,Tryz.ntmps133
 go_wp2_with fail
 all_goals
  go_loopw [5] (fun iv wr => wr = w ∧ ∃ k : Nat,k ≤ 10000 ∧ iv = .int .i64 ((k : Int) - 1) ∧ x / pw k = y / pw k) (fun iv _ => (intOf iv + 1).toNat)
  case atStart =>
   refine ⟨rfl,max nx ny,by omega,by congr 1; omega,?_⟩
   rw [Nat.div_eq_of_lt (Nat.lt_of_lt_of_le HLX.out (aed (by omega))),Nat.div_eq_of_lt (Nat.lt_of_lt_of_le HLY.out (aed (by omega)))]
  case round =>
   obtain ⟨rfl,k,hk,rfl,he⟩ := hrel
   cases k with
   |zero =>
    have hxy : x = y := by simpa [acv] using he
    have HC := Lib.hid (show aea x y = 0 by subst hxy; simp [aea])
    clear he hxy
    go_wp2_with fail
    go_ret
    exact ⟨by rw [HC.out]; rfl,rfl⟩
   |succ j =>
    have dx := aa1 x j
    have dy := aa1 y j
    have ex := ajw x j
    have ey := ajw y j
    rw [← he] at ey
    have hC1 : dgt 16 x j < dgt 16 y j → aea x y = -1 := fun h => by
     have := arl (x := x) (y := y) (k := j) (by omega)
     unfold aea; rw [if_pos this]
    have hC2 : dgt 16 y j < dgt 16 x j → aea x y = 1 := fun h => by
     have := arl (x := y) (y := x) (k := j) (by omega)
     unfold aea; rw [if_neg (by omega),if_pos this]
    have hC3 : dgt 16 x j = dgt 16 y j → x / pw j = y / pw j := fun h => by omega
    clear ex ey he
    have q1 := agl a1 nx c1 x j HNX.out.symm wr HX.out
    have q2 := agl a2 ny c2 y j HNY.out.symm wr HY.out
    generalize dgt 16 x j = d1 at *
    generalize dgt 16 y j = d2 at *
    have HQ1 := Lib.hid q1
    have HQ2 := Lib.hid q2
    have H1 := Lib.hid hC1
    have H2 := Lib.hid hC2
    have H3 := Lib.hid hC3
    have hj : j ≤ 10000 := by omega
    clear q1 q2 hC1 hC2 hC3 hk
    rw [show ((j + 1 : Nat) : Int) - 1 = (j : Int) by omega]
    rcases Nat.lt_trichotomy d1 d2 with h | h | h
    ·have l1 : (d1 : Int) < (d2 : Int) := by omega
     go_wp2_with (first | ((with_reducible refine HQ1.out.mono ?_); rintro e w' ⟨rfl,hw⟩; have hw := hw.symm; subst hw) | ((with_reducible refine HQ2.out.mono ?_); rintro e w' ⟨rfl,hw⟩; have hw := hw.symm; subst hw) | fail)
     go_ret
     exact ⟨by rw [H1.out h]; rfl,rfl⟩
    ·subst h
     go_wp2_with (first | ((with_reducible refine HQ1.out.mono ?_); rintro e w' ⟨rfl,hw⟩; have hw := hw.symm; subst hw) | ((with_reducible refine HQ2.out.mono ?_); rintro e w' ⟨rfl,hw⟩; have hw := hw.symm; subst hw) | fail)
     go_roundw
     case rel => exact ⟨trivial,j,hj,rfl,H3.out trivial⟩
     case measure => simp [intOf]
    ·have l1 : ¬ (d1 : Int) < (d2 : Int) := by omega
     have l2 : (d2 : Int) < (d1 : Int) := by omega
     go_wp2_with (first | ((with_reducible refine HQ1.out.mono ?_); rintro e w' ⟨rfl,hw⟩; have hw := hw.symm; subst hw) | ((with_reducible refine HQ2.out.mono ?_); rintro e w' ⟨rfl,hw⟩; have hw := hw.symm; subst hw) | fail)
     go_ret
     exact ⟨by rw [H2.out h]; rfl,rfl⟩
theorem aA6 (x i j : Nat) (hj : j < 4) : dgt 64 x i / 2 ^ (16 * j) % 65536 = dgt 16 x (4 * i + j) := by
 have e1 : 2 ^ (16 * (4 * i + j)) = 2 ^ (64 * i) * 2 ^ (16 * j) := by rw [← Nat.pow_add]; congr 1; omega
 have e2 : 2 ^ 64 = 2 ^ (16 * j) * (2 ^ 16 * 2 ^ (16 * (3 - j))) := by rw [← Nat.pow_add,← Nat.pow_add]; congr 1; omega
 unfold dgt
 rw [e1,← Nat.div_div_eq_div_mul,e2,Nat.mod_mul_right_div_self,show (65536 : Nat) = 2 ^ 16 from rfl,Nat.mod_mul_right_mod]
theorem Row.nil2 (w : World) (O : Obj) : Row w [] (.slice (some ⟨w.heap.size + 1,0,none⟩) 0 0) ((w.alloc O).alloc (.cells #[] 23)) := by
 refine ⟨_,_,rfl,?_,fun g e => by cases e; exact Nat.le_succ _⟩
 have : aoj ((w.alloc O).alloc (.cells #[] 23)) (.slice (some ⟨(w.alloc O).heap.size,0,none⟩) 0 0) [] := World.ownsRow_made (w.alloc O) #[] 0 (Nat.zero_le _) (Nat.zero_le _) rfl
 rw [World.size_alloc] at this
 exact this
theorem az7 (x : Nat) (hx : x < oz) (w : World) :
  Calls Tryz.prog 172 #[.agg (ig .u64 64 4 x)] w fun e w' => NN x w e w' := by
 have HX := Lib.hid (show x < pw 16 from hx)
 clear hx
 go_enter Tryz.func172,Tryz.ntmps172
 go_wp2_with fail
 go_loopw [3,9] (fun v iv wr => ∃ i : Nat,i ≤ 4 ∧ iv = .int .i64 i ∧ Row w (ds (4 * i) x) v wr ∧ Fr F0 w wr) (fun _ iv _ => 4 - (intOf iv).toNat)
 case atStart => exact ⟨0,by omega,rfl,Row.nil2 w _,((Fr.refl F0 w).alloc _).alloc _⟩
 case round =>
  obtain ⟨i,hi,rfl,⟨a,c,rfl,hown,hblk⟩,hf⟩ := hrel
  rw [jo] at hown ⊢
  have HB := Lib.hid hblk
  have HF := Lib.hid hf
  by_cases h1 : i < 4
  ·have l1 : (i : Int) < 4 := by omega
   have HO := Lib.hid hown
   clear hblk hf hown
   go_wp2_with fail
   go_loopw [3,6] (fun v jv w2 => ∃ j : Nat,j ≤ 4 ∧ jv = .int .i64 j ∧ Row w (ds (4 * i + j) x) v w2 ∧ Fr F0 w w2) (fun _ jv _ => 4 - (intOf jv).toNat)
   case atStart => exact ⟨0,by omega,rfl,⟨a,c,by rw [jo]; rfl,by rw [jo]; exact HO.out,HB.out⟩,HF.out⟩
   case round =>
    obtain ⟨j,hj,rfl,⟨a,c,rfl,hown,hblk⟩,hf⟩ := hrel
    rw [jo] at hown ⊢
    have HB2 := Lib.hid hblk
    have HF2 := Lib.hid hf
    clear hblk hf
    by_cases h2 : j < 4
    ·have l2 : (j : Int) < 4 := by omega
     have hd := aA6 x i j h2
     have hdl : dgt 64 x i < 2 ^ 64 := abf 64 x i
     generalize dgt 64 x i = D at *
     obtain ⟨q,hq⟩ : ∃ q,D / 2 ^ (16 * j) = q := ⟨_,rfl⟩
     obtain ⟨r,hr⟩ : ∃ r,q % 65536 = r := ⟨_,rfl⟩
     have mq : (D : Int) / 2 ^ (16 * j) = (q : Int) := by rw [← hq]; simp
     have mr : (q : Int) % 65536 = (r : Int) := by omega
     rw [hq,hr] at hd
     have HD := Lib.hid hd
     clear hd hq hr hdl
     go_wp2_with (first | (at_builtin; refine ad3 rfl _ _ rfl _ (ds (4 * i + j) x) rfl (hown.fr ((Fr.refl F0 wr).alloc _) (fun _ _ f => f)) _ _ _ [r] rfl (Us.aio wr r) rfl (by rw [jo]; simp; omega) ?_; intro a3 c3 w3 ho hg hb) | fail)
     go_roundw
     case rel =>
      rw [jo] at *
      refine ⟨j + 1,by omega,by go_num,?_,Row.frame HB2.out HF2.out hg⟩
      rw [← Nat.add_assoc,ajx,← HD.out]
      have := Row.app (l := ds (4 * i + j) x) HB2.out HF2.out (by rw [jo]; exact ho) hb
      rwa [jo] at this
     case measure => simp [intOf]; omega
    ·have l2 : ¬ (j : Int) < 4 := by omega
     obtain rfl : j = 4 := by omega
     go_wp2_with fail
     go_roundw
     case rel => exact ⟨i + 1,by omega,by go_num,⟨a,c,by rw [jo]; rfl,by rw [jo]; exact hown,HB2.out⟩,HF2.out⟩
     case measure => simp [intOf]; omega
  ·have l1 : ¬ (i : Int) < 4 := by omega
   obtain rfl : i = 4 := by omega
   have HQ3 := Lib.hid (aj2 16 x a c HX.out (by omega) wr hown.us.2)
   go_wp2_with ((with_reducible refine HQ3.out.mono ?_); rintro e w' ⟨⟨a5,c5,rfl,hn⟩,hw⟩; have hw := hw.symm; subst hw)
   go_ret
   exact ⟨a5,c5,rfl,hn,HF.out⟩
theorem awo (V d k m : Nat) (hm : m < 4) (hV : V < pw (4 * k + m)) (hd : d < 65536) :
  dgt 64 V k + d * 2 ^ (16 * m) < 2 ^ 64 ∧ ae5 64 V k (dgt 64 V k + d * 2 ^ (16 * m)) = V + pw (4 * k + m) * d := by
 have e1 : pw (4 * k + m) = 2 ^ (64 * k) * 2 ^ (16 * m) := by unfold pw; rw [← Nat.pow_add]; congr 1; omega
 have hP := Nat.two_pow_pos (64 * k)
 have hM := Nat.two_pow_pos (16 * m)
 have hM2 : 2 ^ (16 * m) * 65536 ≤ 2 ^ 64 := by
  rw [show (65536 : Nat) = 2 ^ 16 from rfl,← Nat.pow_add]
  exact Nat.pow_le_pow_right (by omega) (by omega)
 rw [e1] at hV ⊢
 have hq : V / 2 ^ (64 * k) < 2 ^ (16 * m) := by rw [Nat.div_lt_iff_lt_mul hP,Nat.mul_comm]; exact hV
 have hdg : dgt 64 V k = V / 2 ^ (64 * k) := by
  unfold dgt
  exact Nat.mod_eq_of_lt (by omega)
 have hdm : (d + 1) * 2 ^ (16 * m) ≤ 65536 * 2 ^ (16 * m) := Nat.mul_le_mul_right _ hd
 rw [Nat.add_mul] at hdm
 have h0 : V / 2 ^ (64 * (k + 1)) = 0 := by
  refine Nat.div_eq_of_lt ?_
  have e2 : 2 ^ (64 * (k + 1)) = 2 ^ (64 * k) * 2 ^ 64 := by rw [← Nat.pow_add]; congr 1
  rw [e2]
  exact Nat.lt_of_lt_of_le hV (Nat.mul_le_mul_left _ (by omega))
 constructor
 ·rw [hdg]; omega
 ·unfold ae5
  rw [hdg,h0,Nat.mul_zero,Nat.add_zero,Nat.mul_add]
  have h1 := Nat.mod_add_div V (2 ^ (64 * k))
  have h2 : 2 ^ (64 * k) * (d * 2 ^ (16 * m)) = 2 ^ (64 * k) * 2 ^ (16 * m) * d := by ac_rfl
  omega
theorem apw (x : Nat) (a : Option Addr) (c : Nat) (hlx : lg x ≤ 10000) (w : World) (hx : Ns w a c x) :
  Calls Tryz.prog 176 #[.slice a (lg x) c] w fun e w' => e = .returned (.tuple #[.agg (ig .u64 64 4 (x % oz)),.bool (decide (oz ≤ x))]) ∧ Fr F0 w w' := by
 have HX := Lib.hid hx
 have HLX := Lib.hid (show x < pw (lg x) from adu x)
 clear hx
 generalize hnx : lg x = nx at *
 have HNX := Lib.hid hnx
 clear hnx
 go_enter Tryz.func176,Tryz.ntmps176
 go_wp2_with fail
 obtain ⟨W1,hW1⟩ : ∃ W1,W1 = (((w.alloc (.cells (ig .u64 64 4 0) 133)).alloc (.cells (ig .u64 64 4 0) 133)).setRow (w.heap.size + 1) (ig .u64 64 4 0)) := ⟨_,rfl⟩
 refine bg W1 hW1 ?_
 have r0 : W1.heap[w.heap.size]? = some (.cells (ig .u64 64 4 0) 133 (0,0)) := by rw [hW1]; exact aac (by omega) (heap_alloc2_old _ _ _)
 have r1 : W1.heap[w.heap.size + 1]? = some (.cells (ig .u64 64 4 0) 133 (0,0)) := by rw [hW1]; exact ady (heap_alloc2_new _ _ _)
 have f1 : Fr F0 w W1 := by rw [hW1]; exact (((Fr.refl F0 w).alloc _).alloc _).setRow (fun h => by omega) _
 clear hW1
 have hne : w.heap.size ≠ w.heap.size + 1 := by omega
 generalize hg : w.heap.size + 1 = g at *
 generalize hg0 : w.heap.size = g0 at *
 have HG := Lib.hid (And.intro hg hg0)
 clear hg hg0
 go_loopw [5] (fun iv wr => ∃ i : Nat,i ≤ 16 ∧ i ≤ nx ∧ iv = .int .i64 i ∧ wr.heap[g0]? = some (.cells (ig .u64 64 4 0) 133 (0,0)) ∧ wr.heap[g]? = some (.cells (ig .u64 64 4 (x % pw i)) 133 (0,0)) ∧ Fr F0 w wr) (fun iv _ => 16 - (intOf iv).toNat)
 case atStart => exact ⟨0,by omega,by omega,rfl,r0,by rw [acv,Nat.mod_one]; exact r1,f1⟩
 case round =>
  clear r0 r1 f1
  obtain ⟨i,hi,hin,rfl,r0,r1,hf⟩ := hrel
  by_cases h1 : i < 16
  ·by_cases h2 : i < nx
   ·have l1 : (i : Int) < 16 := by omega
    have l2 : (i : Int) < (nx : Int) := by omega
    obtain ⟨b,off,ea,hc⟩ := (HX.out.fr hf).get i (by rw [ac2,HNX.out]; exact h2)
    rw [ajy] at hc
    subst ea
    obtain ⟨k,hk⟩ : ∃ k,i / 4 = k := ⟨_,rfl⟩
    obtain ⟨m,hm⟩ : ∃ m,i % 4 = m := ⟨_,rfl⟩
    have hik : 4 * k + m = i := by omega
    have hp := awo (x % pw i) (dgt 16 x i) k m (by omega) (by rw [hik]; exact Nat.mod_lt _ (abp i)) (aa1 x i)
    rw [hik,← adz] at hp
    have mk : (i : Int) / 4 = (k : Int) := by omega
    have mm : (i : Int) % 4 = (m : Int) := by omega
    have lk : (k : Int) < 4 := by omega
    have lk4 : k < 4 := by omega
    have lm : (m : Int) < 4 := by omega
    have HI := Lib.hid (And.intro hi (And.intro hin (And.intro h1 h2)))
    have HF := Lib.hid hf
    have aF8 := aa1 x i
    have hVw := abf 64 (x % pw i) k
    generalize x % pw i = V at *
    generalize dgt 16 x i = d at *
    clear hi hin h1 h2 hf hik hk hm
    obtain ⟨hp1,hp2⟩ := hp
    obtain ⟨dm,hdm⟩ : ∃ dm,d * 2 ^ (16 * m) = dm := ⟨_,rfl⟩
    obtain ⟨sm,hsm⟩ : ∃ sm,dgt 64 V k + dm = sm := ⟨_,rfl⟩
    rw [hdm] at hp1 hp2
    rw [hsm] at hp1 hp2
    have hdm2 : (d : Int) * 2 ^ (16 * m) = (dm : Int) := by rw [← hdm]; simp
    have m1 : IntKind.u64.wrap ((d : Int) * 2 ^ (16 * m)) = (dm : Int) := by rw [hdm2]; exact IntWalk.u64_in _ (by omega)
    have m2 : IntKind.u64.wrap (((dgt 64 V k : Nat) : Int) + dm) = (sm : Int) := by rw [IntWalk.u64_in _ (by omega)]; omega
    have HP1 := Lib.hid hp1
    have HP2 := Lib.hid hp2
    have HN := Lib.hid hne
    clear hp1 hp2 hdm hsm hdm2 hVw aF8 hne
    go_wp2_with fail
    go_region
    go_wp2
    go_roundw
    case rel =>
     obtain ⟨q1,q2,q3,q4⟩ := HI.out
     obtain ⟨hg,hg0⟩ := HG.out
     refine ⟨i + 1,by omega,by omega,by go_num,?_,?_,?_⟩
     ·rw [mg,Below.heap_setCell _ _ _ _ HN.out]; exact r0
     ·rw [mg,cu,r1,jr,abr _ _ _ HP1.out,HP2.out]
     ·exact (HF.out.setCell (p := ⟨g,k,none⟩) (fun h => by simp at h; omega) _).drew
    case measure =>
     obtain ⟨q1,q2,q3,q4⟩ := HI.out
     simp [intOf]; omega
   ·have l1 : (i : Int) < 16 := by omega
    have l2 : ¬ (i : Int) < (nx : Int) := by omega
    have HT := Lib.hid (show decide ((16 : Int) < (nx : Int)) = decide (oz ≤ x) ∧ x % pw i = x % oz by
     obtain rfl : i = nx := by omega
     have hxp := HLX.out
     have h3 : x < oz := Nat.lt_of_lt_of_le hxp (aed (show i ≤ 16 by omega))
     exact ⟨by rw [decide_eq_false (by omega),decide_eq_false (by omega)],by rw [Nat.mod_eq_of_lt hxp,Nat.mod_eq_of_lt h3]⟩)
    go_wp2_with fail
    refine bodyPost_ret (abl rfl _ _ g0 _ _ _ _ rfl (ady r0) Tryz.underlying133 rfl (by rw [Tryz.szArr4,aas])) rfl ⟨?_,?_⟩
    ·rw [HT.out.2]; simp only [Array.getD]; rw [← HT.out.1]; rfl
    ·obtain ⟨hg,hg0⟩ := HG.out
     exact hf.setRow (fun h => by omega) _
  ·obtain rfl : i = 16 := by omega
   have l1 : ¬ ((16 : Nat) : Int) < 16 := by omega
   have HT := Lib.hid (show decide ((16 : Int) < (nx : Int)) = decide (oz ≤ x) from by
    by_cases h : nx = 16
    ·have h3 : x < oz := by have := HLX.out; rw [h] at this; exact this
     rw [decide_eq_false (by omega),decide_eq_false (by omega)]
    ·have h4 := aI2 (x := x) (by rw [HNX.out]; omega)
     rw [HNX.out] at h4
     have h5 : oz ≤ x := Nat.le_trans (aed (show 16 ≤ nx - 1 by omega)) h4
     rw [decide_eq_true (by omega),decide_eq_true h5])
   go_wp2_with fail
   refine bodyPost_ret (abl rfl _ _ g0 _ _ _ _ rfl (ady r0) Tryz.underlying133 rfl (by rw [Tryz.szArr4,aas])) rfl ⟨?_,?_⟩
   ·simp only [Array.getD]; rw [← HT.out]; rfl
   ·obtain ⟨hg,hg0⟩ := HG.out
    exact hf.setRow (fun h => by omega) _
end Go.Proofs.YtohckefafbhooaaGreat
