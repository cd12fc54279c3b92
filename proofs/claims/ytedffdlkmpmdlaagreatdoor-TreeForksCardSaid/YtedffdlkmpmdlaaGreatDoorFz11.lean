import Derived.Test.YtedffdlkmpmdlaaGreatDoorFz10
import Derived.Test.YtedffdlkmpmdlaaGreatDoorFz3
import Derived.Deep.RegionHeld3
import Derived.OrdersHeld
import Derived.Laws.BitsAllLaws
import Derived.Test.YtedffdlkmpmdlaaGreatDoorFz2
import Derived.OwnWalk
import Derived.ArgAppend
import Derived.Laws.ResultCell
import Derived.Deep.CutBlock
import Derived.Deep.DeepCutAuto
import Derived.Lib.Bytealg
import Derived.Laws.Externs
import Derived.RangeFuncNested
import Derived.RangeFuncBound
import Derived.RangeFuncCalls
import Derived.RangeFuncLeaves
import Derived.Shelf.Abstract
import Derived.Shelf.RegionOpen
import Derived.OwnWalkIn
import Derived.TacticsInMore
import Derived.LoopNIn
import Derived.LoopIn
import Derived.RangeFuncBox
import Derived.OrdersIn
import Derived.RegionIn
import Derived.BigRegionIn
set_option maxRecDepth 100000
set_option maxHeartbeats 64000000
namespace Go.Proofs.YtedffdlkmpmdlaaGreatDoor
set_option maxRecDepth 100000
set_option linter.unusedVariables false
set_option linter.unusedSimpArgs false
open Go.RowKit
end Go.Proofs.YtedffdlkmpmdlaaGreatDoor
namespace Go.Proofs.YtedffdlkmpmdlaaGreatDoor
set_option maxRecDepth 100000
set_option linter.unusedVariables false
set_option linter.unusedSimpArgs false
open Go.RowKit
attribute [local go_sem] strOf_size strOf_append
end Go.Proofs.YtedffdlkmpmdlaaGreatDoor
namespace Go.Proofs.YtedffdlkmpmdlaaGreatDoor
set_option maxRecDepth 100000
set_option linter.unusedVariables false
set_option linter.unusedSimpArgs false
open Go.RowKit
theorem wpList_build_no {P : Program} {w : World} {ops : Array Oper} {rest : List Oper} {o : Oper} {a : Act} {Q : Exit → Act → World → Prop} (hg : o.guard = none) (t : TypeId) (ho : o.op = .build t #[]) (cells : Array Value)
  (hb : P.built t [] = some cells) (h : wpList P ops Q rest (a.put o.dst (.agg cells)) w) : wpList P ops Q (o :: rest) a w := by
 refine wpList_build hg t #[] ho (by simp [hb]) ?_
 simpa [hb] using h
theorem Tryz.builtH : Tryz.prog.built 25 [] = some ((List.replicate 32 (0 : UInt8)).map B8).toArray := by kernel_rfl
theorem eql_hashes (w : World) (l m : List UInt8) (h : l.length = 32) (h' : m.length = 32) : (binOp .eql 25 (.agg (l.map B8).toArray) (.agg (m.map B8).toArray)).run Tryz.prog w = .ok (.bool (decide (l = m))) w := by
 obtain ⟨i0,hi,_⟩ := info_parts Tryz.infoU8
 exact run_eql_bytes w 25 5 32 i0 Tryz.underlying25 hi (by kernel_rfl) (by kernel_rfl) Tryz.underlying5 l m h h'
theorem Zero_any (h : List UInt8) (hh : h.length = 32) (w : World) :
  Calls Tryz.prog 30 #[.agg (h.map B8).toArray] w fun e w' => e = .returned (.bool (decide (h = List.replicate 32 0))) ∧ Fr F0 w w' := by
 have E := fun w => eql_hashes w h (List.replicate 32 0) hh (by simp)
 have hz : (h.map B8).toArray.size = 32 := by simp [hh]
 generalize hZ : List.replicate 32 (0 : UInt8) = Z at *
 have hB := Tryz.builtH
 rw [hZ] at hB
 go_enter Tryz.func30,Tryz.ntmps30
 go_wp2_with (first | refine wpList_load_row rfl 25 (.tmp 1) rfl w.heap.size rfl 25 _ (0,0) _ (heap_alloc_new w _) Tryz.underlying25 rfl (by rw [Tryz.sz32,hz]) ?_ | refine wpList_build_no rfl 25 rfl _ hB ?_)
 go_ret
 exact ⟨rfl,(Fr.refl F0 w).alloc _⟩
end Go.Proofs.YtedffdlkmpmdlaaGreatDoor
namespace Go.Proofs.YtedffdlkmpmdlaaGreatDoor
set_option maxRecDepth 100000
set_option linter.unusedVariables false
set_option linter.unusedSimpArgs false
open Go.RowKit Go.Shelf
attribute [local go_sem] Oper.semAt_some
end Go.Proofs.YtedffdlkmpmdlaaGreatDoor
namespace Go.Proofs.YtedffdlkmpmdlaaGreatDoor
set_option maxRecDepth 100000
set_option linter.unusedVariables false
set_option linter.unusedSimpArgs false
open Go.RowKit
attribute [local go_sem] strOf_size
end Go.Proofs.YtedffdlkmpmdlaaGreatDoor
namespace Go.Proofs.YtedffdlkmpmdlaaGreatDoor
set_option maxRecDepth 100000
set_option linter.unusedVariables false
set_option linter.unusedSimpArgs false
open Go.RowKit
attribute [local go_sem] strOf_size
end Go.Proofs.YtedffdlkmpmdlaaGreatDoor
namespace Go.Proofs.YtedffdlkmpmdlaaGreatDoor
set_option maxRecDepth 100000
set_option linter.unusedVariables false
set_option linter.unusedSimpArgs false
open Go.RowKit
abbrev signsB : ByteArray := { data := #[48,49,50,51,52,53,54,55,56,57,97,98,99,100,101,102] }
end Go.Proofs.YtedffdlkmpmdlaaGreatDoor
namespace Go.Proofs.YtedffdlkmpmdlaaGreatDoor
set_option maxRecDepth 100000
set_option linter.unusedVariables false
set_option linter.unusedSimpArgs false
open Go.RowKit
attribute [local go_sem] strOf_size
end Go.Proofs.YtedffdlkmpmdlaaGreatDoor
namespace Go.Proofs.YtedffdlkmpmdlaaGreatDoor
set_option maxRecDepth 100000
set_option linter.unusedVariables false
set_option linter.unusedSimpArgs false
def hh (a b : List UInt8) : List UInt8 := sha2 (a ++ b)
def up : List (List UInt8) → List (List UInt8)
 |[] => []
 |[a] => [hh a a]
 |a :: b :: r => hh a b :: up r
theorem up_length : ∀ l,(up l).length = (l.length + 1) / 2
 |[] => rfl
 |[_] => by simp [up]
 |a :: b :: r => by
  simp only [up,List.length_cons,up_length r]
  omega
def rows (n : Nat) : Nat := if h : n ≤ 1 then 0 else rows ((n + 1) / 2) + 1
termination_by n
def alone (i n : Nat) : Bool := decide (n % 2 = 1 ∧ i + 1 = n)
def oth (i n : Nat) : Nat := if alone i n = true then i else if i % 2 = 1 then i - 1 else i + 1
def wayM (l : List (List UInt8)) (i : Nat) : List (List UInt8) := if h : l.length ≤ 1 then [] else l.getD (oth i l.length) [] :: wayM (up l) (i / 2)
termination_by l.length
decreasing_by rw [up_length]; omega
def stpM (i : Nat) (h x : List UInt8) : List UInt8 := if i % 2 = 1 then hh x h else hh h x
def climbM : List (List UInt8) → List UInt8 → Nat → Nat → Option (List UInt8)
 |[],h,_,n => if n = 1 then some h else none
 |x :: r,h,i,n => if n = 1 then none else if (decide (x = h) != alone i n) = true then none else climbM r (stpM i h x) (i / 2) ((n + 1) / 2)
def all32 (l : List (List UInt8)) : Prop := ∀ h ∈ l,h.length = 32
theorem all32.get {l : List (List UInt8)} (h : all32 l) {k : Nat} (hk : k < l.length) : (l.getD k []).length = 32 := by
 rw [List.getD_eq_getElem?_getD,List.getElem?_eq_getElem hk]
 exact h _ (List.getElem_mem hk)
end Go.Proofs.YtedffdlkmpmdlaaGreatDoor
namespace Go.Proofs.YtedffdlkmpmdlaaGreatDoor
set_option maxRecDepth 100000
set_option linter.unusedVariables false
set_option linter.unusedSimpArgs false
open Go.RowKit Go.Shelf
attribute [local go_sem] Oper.semAt_some
theorem wpListIn_load_row {F : Fence} {n : Nat} {P : Program} {ops : Array Oper} {rest : List Oper} {o : Oper} {a : Act} {w : World} {Q : Exit → Act → World → Prop} (hgd : o.guard = none) (ty : TypeId) (x : Operand) (ho : o.op = .load ty x)
  (g : Nat) (hx : a.eval x = .pointer (some ⟨g,0,none⟩)) (t : TypeId) (cs : Array Value) (fr : Nat × Nat) (d : TypeDesc) (hg : w.heap[g]? = some (.cells cs t fr))
  (hu : P.underlying ty = some d) (hd : (match d with | .struct _ | .array _ _ => true | _ => false) = true) (hi : (P.info? ty).map (·.size) = some cs.size)
  (h : wpListIn F n P ops Q rest (a.put o.dst (.agg cs)) w) : wpListIn F n P ops Q (o :: rest) a w := by
 refine wpListIn_plain hgd fun K hK => ?_
 unfold Oper.wpIn
 refine ⟨?_,?_⟩
 ·simp [Oper.about,ho]
 ·rw [Oper.semAt_plain F _ _ (by rw [ho]; intro c hc'; cases hc')]
  simp only [execOp,ho,hx,Instr.loadAt,Instr.sureAddr,Sem.run_bind,Sem.run_pure,Result.andThen_ok,run_loadVar_row w g t ty cs fr d hg hu hd hi]
  exact hK _ _ h
theorem wpListIn_store_row {F : Fence} {n : Nat} {P : Program} {ops : Array Oper} {rest : List Oper} {o : Oper} {a : Act} {w : World} {Q : Exit → Act → World → Prop} (hgd : o.guard = none) (ty : TypeId) (x y : Operand) (ho : o.op = .store ty x y)
  (g : Nat) (cells : Array Value) (hx : a.eval x = .pointer (some ⟨g,0,none⟩)) (hy : a.eval y = .agg cells)
  (t : TypeId) (old : Array Value) (hg : w.heap[g]? = some (.cells old t (0,0))) (hi : (P.info? ty).map (·.size) = some cells.size)
  (hold : old.size = cells.size) (h1 : cells.all (·.oneCell') = true)
  (h : wpListIn F n P ops Q rest (a.put o.dst undef) (w.setRow g cells)) : wpListIn F n P ops Q (o :: rest) a w := by
 refine wpListIn_plain hgd fun K hK => ?_
 unfold Oper.wpIn
 refine ⟨?_,?_⟩
 ·simp [Oper.about,ho]
 ·rw [Oper.semAt_plain F _ _ (by rw [ho]; intro c hc'; cases hc')]
  simp only [execOp,ho,hx,hy,Instr.storeAt,Instr.sureAddr,Sem.run_bind,Sem.run_pure,Result.andThen_ok,run_storeVar_row w g t ty old cells hg hi hold h1]
  exact hK _ _ h
def fins (m k : Nat) : List (Fin m) := (List.finRange m).take k
theorem fins_succ (m k : Nat) (h : k < m) : fins m (k + 1) = fins m k ++ [⟨k,h⟩] := by
 rw [fins,List.take_succ_eq_append_getElem (by simpa using h)]
 simp [fins]
theorem fins_length (m k : Nat) (h : k ≤ m) : (fins m k).length = k := by simp [fins]; omega
abbrev encC (m : Nat) (a : Option Addr) (k : Fin m) : Array Value := #[.slice (a.map fun x => ⟨x.block,x.off + 64 * k.val,none⟩) 64 64]
theorem Chunk1_in (F : Fence) (n : Nat) (hF : F.fn 112) (hro : F.round = none) (hn : 1 ≤ n) (l Bx By X b off cap m : Nat) (hm : 64 * m ≤ 140737488355328) (hcap : 64 * m ≤ cap) (hBX : Bx ≠ X) (hBY : By ≠ X) (J Jx : List (Fin m) → World → Prop)
  (hY : ∀ pre x W,J pre W → pre.length < m → YieldAt F (n - 1) Tryz.prog l (encC m (some ⟨b,off,none⟩) x) W fun e W' =>
   (e = .returned (.bool true) ∧ J (pre ++ [x]) W' ∧ Kc X W W') ∨ (e = .returned (.bool false) ∧ Jx (pre ++ [x]) W'))
  (hJd : ∀ pre W,J pre W → J pre W.drew) (W : World) (hBs : W.cell? ⟨Bx,0,none⟩ = some (.slice (some ⟨b,off,none⟩) (64 * m) cap)) (hBn : W.cell? ⟨By,0,none⟩ = some (.int .i64 64)) (h0 : J [] W) :
  CallsIn F n Tryz.prog 112 #[.func (.yield l) #[] #[],.pointer (some ⟨Bx,0,none⟩),.pointer (some ⟨By,0,none⟩)] W fun e W' => (∃ v,e = .returned v) ∧
   ((∃ ys,ys = fins m m ∧ J ys W') ∨ (∃ pre,True ∧ Jx pre W')) := by
 refine callsIn_of_wp Tryz.func112 rfl hF ?_ hro
 simp only [Tryz.ntmps112,List.size_toArray,List.length_cons,List.length_nil,Nat.reduceAdd,Nat.reduceSub,Array.replicate_succ,Array.replicate_zero,List.push_toArray,List.append_toArray,List.nil_append,List.cons_append]
 obtain ⟨M,hM⟩ : ∃ M,M = 64 * m := ⟨_,rfl⟩
 rw [← hM] at hBs hm hcap
 have HM := Lib.hid hM
 clear hM
 gi_wp2
 gi_loopw [4] (fun i wr => ∃ k : Nat,k ≤ m ∧ i = .int .i64 ((64 * k : Nat) : Int) ∧ J (fins m k) wr ∧ Kc X W wr)
  (fun i _ => (64 * m - (intOf i).toNat))
 case atStart => exact ⟨0,Nat.zero_le _,rfl,h0,Kc.refl _ _⟩
 case round =>
  obtain ⟨k,hk,rfl,hJs,hnx⟩ := hrel
  have hbox := hnx.cell (p := ⟨Bx,0,none⟩) hBX hBs
  have hboy := hnx.cell (p := ⟨By,0,none⟩) hBY hBn
  obtain ⟨p,hp⟩ : ∃ p,p = 64 * k := ⟨_,rfl⟩
  have HP := Lib.hid hp
  rw [← hp]
  by_cases hlt : k < m
  ·obtain ⟨fn,tmps,assign,body,hy,hR⟩ := hY _ ⟨k,hlt⟩ wr.drew (hJd _ _ hJs) (by rw [fins_length _ _ hk]; exact hlt)
   dsimp only [encC,Option.map] at hy
   rw [← hp] at hy
   have l1 : (p : Int) < (M : Int) := by have := HM.out; omega
   have l2 : p + 64 ≤ M := by have := HM.out; omega
   have l3 : ¬ ((M - p : Nat) : Int) < 64 := by omega
   have l4 : (p : Int) + 64 ≤ cap := by omega
   clear hp
   gi_wp2
   refine wpIn_mono (Q := fun e a' w' => e = .normal ∧ a' = { tmps := #[.func (.yield l) #[] #[],.pointer (some ⟨Bx,0,none⟩),.pointer (some ⟨By,0,none⟩),undef,.int .i64 p,.int .i64 64,.int .i64 p,.slice (some ⟨b,off,none⟩) M cap,.int .i64 M,.bool true,u10,u11,u12,.int .i64 64,.slice (some ⟨b,off,none⟩) M cap,.int .i64 p,.slice (some ⟨b,off + p,none⟩) (M - p) (cap - p),.int .i64 ((M - p : Nat) : Int),.int .i64 64,u19,u20,u21,u22,u23,u24,u25,u26,u27,u28,u29,u30],defers := [] } ∧ w' = wr.drew) ?_ ?_
   ·gi_region
    all_goals exact ⟨by trivial,by rw [if_neg (show ¬ ((M - p : Nat) : Int) < 64 by omega)],by trivial⟩
   rintro e a' w' ⟨rfl,rfl,rfl⟩
   gi_wp2
   refine hR.mono ?_
   rintro e W3 (⟨rfl,hJ3,hk3⟩ | ⟨rfl,hJx3⟩)
   ·have hboy3 := hk3.cell (p := ⟨By,0,none⟩) hBY hboy
    gi_wp2
    go_roundw
    case rel =>
     have hk' : Kc X wr W3 := hk3
     refine ⟨k + 1,by omega,?_,by rw [fins_succ m k hlt]; exact hJ3,hnx.trans hk'⟩
     have := HP.out
     go_num
    case measure =>
     have := HP.out
     simp [intOf]; omega
   ·gi_wp2
    refine bodyPost_ret (results_none rfl _ _ _) rfl ?_
    exact ⟨⟨_,rfl⟩,.inr ⟨_,trivial,hJx3⟩⟩
  ·obtain rfl : k = m := by omega
   have l1 : ¬ (p : Int) < (M : Int) := by have := HM.out; omega
   clear hp
   gi_wp2
   go_end0
   exact ⟨⟨_,rfl⟩,.inl hJs⟩
theorem Chunk1_nil_in (F : Fence) (n : Nat) (hF : F.fn 112) (hro : F.round = none) (l Bx By : Nat) (a : Option Addr) (cap : Nat) (J : List (Fin 0) → World → Prop) (W : World) (hBs : W.cell? ⟨Bx,0,none⟩ = some (.slice a 0 cap)) (h0 : J [] W) :
  CallsIn F n Tryz.prog 112 #[.func (.yield l) #[] #[],.pointer (some ⟨Bx,0,none⟩),.pointer (some ⟨By,0,none⟩)] W fun e W' => (∃ v,e = .returned v) ∧ J [] W' := by
 refine callsIn_of_wp Tryz.func112 rfl hF ?_ hro
 simp only [Tryz.ntmps112,List.size_toArray,List.length_cons,List.length_nil,Nat.reduceAdd,Nat.reduceSub,Array.replicate_succ,Array.replicate_zero,List.push_toArray,List.append_toArray,List.nil_append,List.cons_append]
 gi_wp2
 gi_loopw [4] (fun i wr => i = .int .i64 0 ∧ W.cell? ⟨Bx,0,none⟩ = wr.cell? ⟨Bx,0,none⟩ ∧ J [] wr) (fun _ _ => 0)
 case atStart => exact ⟨rfl,rfl,h0⟩
 case round =>
  obtain ⟨rfl,hc,hJs⟩ := hrel
  rw [hc] at hBs
  gi_wp2
  go_end0
  exact ⟨⟨_,rfl⟩,hJs⟩
theorem Chunk_in (F : Fence) (n : Nat) (hF : F.fn 93) (hro : F.round = none) (a : Option Addr) (len cap : Nat) (w : World) :
  CallsIn F n Tryz.prog 93 #[.slice a len cap,.int .i64 64] w fun e w' => e = .returned (.func (.func 112) #[] #[.pointer (some ⟨w.heap.size,0,none⟩),.pointer (some ⟨w.heap.size + 1,0,none⟩)]) ∧ w' = (w.alloc (.cells #[.slice a len cap] 52)).alloc (.cells #[.int .i64 64] 3) := by
 refine callsIn_of_wp Tryz.func93 rfl hF ?_ hro
 simp only [Tryz.ntmps93,List.size_toArray,List.length_cons,List.length_nil,Nat.reduceAdd,Nat.reduceSub,Array.replicate_succ,Array.replicate_zero,List.push_toArray,List.append_toArray,List.nil_append,List.cons_append]
 gi_wp2
 go_ret
 exact ⟨rfl,rfl⟩
theorem Chunk_stops (F : Fence) (n : Nat) (hF : F.fn 112) (hro : F.round = none) (hn : 1 ≤ n) (Bx By X : Nat) (a : Option Addr) (cap m : Nat) (hm : 64 * m ≤ 140737488355328) (hcap : 64 * m ≤ cap) (w : World)
  (hBX : Bx ≠ X) (hBY : By ≠ X) (hcx : w.cell? ⟨Bx,0,none⟩ = some (.slice a (64 * m) cap)) (hcy : w.cell? ⟨By,0,none⟩ = some (.int .i64 64)) (ha : m ≠ 0 → ∃ b off,a = some ⟨b,off,none⟩) :
  SeqStopsK F n Tryz.prog 112 #[.pointer (some ⟨Bx,0,none⟩),.pointer (some ⟨By,0,none⟩)] (encC m a) (Kc X) (fun ys => ys = fins m m) (fun _ => True) m w := fun l J Jx W hW hJ _ hY h0 => by
 have hK : Kc X w W := Kc.below hW
 have hcx' := hK.cell (p := ⟨Bx,0,none⟩) hBX hcx
 have hcy' := hK.cell (p := ⟨By,0,none⟩) hBY hcy
 by_cases hm0 : m = 0
 ·subst hm0
  exact (Chunk1_nil_in F n hF hro l Bx By a cap J W hcx' h0).mono fun e W' ⟨he,hj⟩ => ⟨he,.inl ⟨_,rfl,hj⟩⟩
 ·obtain ⟨b,off,rfl⟩ := ha hm0
  exact Chunk1_in F n hF hro hn l Bx By X b off cap m hm hcap hBX hBY J Jx hY (fun pre W h => hJ _ _ _ none h ⟨rfl,rfl,rfl,Nat.le_refl _,fun _ _ _ => rfl⟩ (fun _ e => by cases e)) W hcx' hcy' h0
end Go.Proofs.YtedffdlkmpmdlaaGreatDoor
