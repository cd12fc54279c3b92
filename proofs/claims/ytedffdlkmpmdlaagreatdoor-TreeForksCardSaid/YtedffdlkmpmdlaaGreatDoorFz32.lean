import Derived.Test.YtedffdlkmpmdlaaGreatDoorFz31
import Derived.Test.YtedffdlkmpmdlaaGreatDoorFz2
import Derived.Test.YtedffdlkmpmdlaaGreatDoorFz9
import Derived.Test.YtedffdlkmpmdlaaGreatDoorFz3
import Derived.DeepKeys4
import Derived.MapKept
import Derived.ChangeMaps5
import Derived.Test.YtedffdlkmpmdlaaGreatDoorFz1
import Derived.Test.YtedffdlkmpmdlaaGreatDoorFz30
import Derived.Test.YtedffdlkmpmdlaaGreatDoorFz6
import Derived.Test.YtedffdlkmpmdlaaGreatDoorFz18
import Derived.LaidEqlPtr
import Derived.Lib.Builder
set_option maxRecDepth 100000
set_option maxHeartbeats 64000000
namespace Go.Proofs.YtedffdlkmpmdlaaGreatDoor
set_option maxRecDepth 100000
set_option linter.unusedVariables false
set_option linter.unusedSimpArgs false
open Go.RowKit
def blkC (h : Hd) (hs : List UInt8) (up : Value) (ht wk : Nat) (tip : Bool) : Array Value :=
 (h.cells.toList ++ (hs.map B8 ++ (up :: .int .i64 (ht : Int) :: ((rowN .u64 64 4 wk).toList ++ [Value.bool tip])))).toArray
theorem rowN_len4 (x : Nat) : (rowN .u64 64 4 x).toList.length = 4 := by simp [rowN]
theorem rowN_one4 (x : Nat) : ∀ u ∈ (rowN .u64 64 4 x).toList,u.oneCell' = true := by
 intro u hu
 simp only [rowN] at hu
 simp at hu
 obtain ⟨_,_,rfl⟩ := hu
 rfl
section
variable {h : Hd} {hs : List UInt8} {up : Value} {ht wk : Nat} {tip : Bool}
theorem blkC_size (o : h.Ok) (l : hs.length = 32) : (blkC h hs up ht wk tip).size = 107 := by
 have e : h.cells.toList.length = 68 := by rw [Array.length_toList]; exact Hd.cells_size o
 have := rowN_len4 wk
 simp only [blkC,List.size_toArray,List.length_append,List.length_cons,List.length_map,List.length_nil]
 omega
theorem blkC_lo (o : h.Ok) (j : Nat) (hj : j < 68) : (blkC h hs up ht wk tip)[j]? = h.cells[j]? := by
 have e : h.cells.toList.length = 68 := by rw [Array.length_toList]; exact Hd.cells_size o
 rw [blkC,List.getElem?_toArray,List.getElem?_append_left (by omega),Array.getElem?_toList]
theorem blkC_mid (o : h.Ok) (l : hs.length = 32) (j : Nat) (hj : j < 32) : (blkC h hs up ht wk tip)[68 + j]? = (hs.map B8)[j]? := by
 have e : h.cells.toList.length = 68 := by rw [Array.length_toList]; exact Hd.cells_size o
 rw [blkC,List.getElem?_toArray,List.getElem?_append_right (by omega),e,List.getElem?_append_left (by rw [List.length_map]; omega)]
 congr 1; omega
theorem blkC_hi (o : h.Ok) (l : hs.length = 32) (j : Nat) : (blkC h hs up ht wk tip)[100 + j]? = (up :: .int .i64 (ht : Int) :: ((rowN .u64 64 4 wk).toList ++ [Value.bool tip]))[j]? := by
 have e : h.cells.toList.length = 68 := by rw [Array.length_toList]; exact Hd.cells_size o
 rw [blkC,List.getElem?_toArray,List.getElem?_append_right (by omega),e,List.getElem?_append_right (by rw [List.length_map]; omega),List.length_map]
 congr 1; omega
theorem blkC_up (o : h.Ok) (l : hs.length = 32) : (blkC h hs up ht wk tip)[100]? = some up := blkC_hi o l 0
theorem blkC_ht (o : h.Ok) (l : hs.length = 32) : (blkC h hs up ht wk tip)[101]? = some (.int .i64 (ht : Int)) := blkC_hi o l 1
theorem blkC_wk (o : h.Ok) (l : hs.length = 32) (j : Nat) (hj : j < 4) : (blkC h hs up ht wk tip)[102 + j]? = (rowN .u64 64 4 wk)[j]? := by
 have := blkC_hi (up := up) (ht := ht) (wk := wk) (tip := tip) o l (2 + j)
 rw [show 102 + j = 100 + (2 + j) by omega,this,show 2 + j = j + 1 + 1 by omega,List.getElem?_cons_succ,List.getElem?_cons_succ,List.getElem?_append_left (by rw [rowN_len4]; exact hj),Array.getElem?_toList]
theorem blkC_tip (o : h.Ok) (l : hs.length = 32) : (blkC h hs up ht wk tip)[106]? = some (.bool tip) := by
 have := blkC_hi (up := up) (ht := ht) (wk := wk) (tip := tip) o l 6
 rw [show 106 = 100 + 6 from rfl,this,List.getElem?_cons_succ,List.getElem?_cons_succ,List.getElem?_append_right (by rw [rowN_len4]; omega),rowN_len4]
 rfl
theorem blkC_time (o : h.Ok) : (blkC h hs up ht wk tip)[65]? = some (.int .u32 (h.time : Int)) := (blkC_lo o 65 (by omega)).trans (Hd.cell65 o)
theorem blkC_bits (o : h.Ok) : (blkC h hs up ht wk tip)[66]? = some (.int .u32 (h.bits : Int)) := (blkC_lo o 66 (by omega)).trans (Hd.cell66 o)
theorem blkC_one (hu : up.oneCell' = true) : rowOne (blkC h hs up ht wk tip) := by
 unfold rowOne
 rw [Array.all_eq_true_iff_forall_mem]
 intro v hv
 have h1 : rowOne h.cells := Hd.one
 unfold rowOne at h1
 rw [Array.all_eq_true_iff_forall_mem] at h1
 simp only [blkC,List.mem_toArray,List.mem_append,List.mem_cons,List.mem_map,List.not_mem_nil,or_false] at hv
 rcases hv with hv | ⟨x,_,rfl⟩ | rfl | rfl | hv | rfl
 ·exact h1 v (by simpa using hv)
 ·rfl
 ·exact hu
 ·rfl
 ·exact rowN_one4 wk v hv
 ·rfl
theorem blkC_set (o : h.Ok) (l : hs.length = 32) (t2 : Bool) : (blkC h hs up ht wk tip).setIfInBounds 106 (.bool t2) = blkC h hs up ht wk t2 := by
 have e : h.cells.toList.length = 68 := by rw [Array.length_toList]; exact Hd.cells_size o
 unfold blkC
 rw [List.setIfInBounds_toArray,List.set_append_right _ _ (by omega),e,List.set_append_right _ _ (by rw [List.length_map]; omega),List.length_map,l,show 106 - 68 - 32 = 4 + 1 + 1 from rfl,List.set_cons_succ,List.set_cons_succ,List.set_append_right _ _ (by rw [rowN_len4]; omega),rowN_len4]
 rfl
end
theorem mapM_some {α β : Type} (f : α → Option β) : ∀ l : List α,(∀ x ∈ l,∃ y,f x = some y) → ∃ ys,l.mapM f = some ys
 |[],_ => ⟨[],rfl⟩
 |x :: l,h => by
  obtain ⟨y,hy⟩ := h x (by simp)
  obtain ⟨ys,hys⟩ := mapM_some f l fun z hz => h z (by simp [hz])
  exact ⟨y :: ys,by simp [List.mapM_cons,hy,hys]⟩
theorem hash_lits (h : List UInt8) (hl : h.length = 32) : ∃ la,Tryz.prog.keyLits 2 25 (Value.agg (hc h)).cells.toList = some la := by
 have e : (Value.agg (hc h)).cells.toList = h.map B8 := by simp [Value.cells,hc]
 rw [e]
 unfold Program.keyLits
 simp only [Tryz.underlying25]
 rw [if_pos (by rw [List.length_map,hl]; kernel_rfl),show Tryz.prog.cellsOf 5 = 1 by kernel_rfl]
 obtain ⟨ys,hys⟩ := mapM_some (fun i => Tryz.prog.keyLits 1 5 (((h.map B8).drop (i * 1)).take 1)) (List.range 32) (fun i hi => by
  have hi := List.mem_range.1 hi
  have : ((h.map B8).drop (i * 1)).take 1 = [B8 (h[i]'(by omega))] := by
   rw [Nat.mul_one,List.drop_eq_getElem_cons (by rw [List.length_map]; omega),List.take_succ_cons,List.take_zero,List.getElem_map]
  rw [this]
  unfold Program.keyLits
  have hx := (h[i]'(by omega)).toNat_lt
  simp only [Tryz.underlying5,B8]
  refine ⟨_,if_pos ⟨trivial,?_⟩⟩
  simp only [Lit.wf,Bool.and_eq_true,decide_eq_true_eq]
  exact ⟨show (0 : Int) ≤ _ by omega,show _ ≤ (255 : Int) by omega⟩)
 rw [hys]
 exact ⟨_,rfl⟩
theorem run_checkHash (em : Bool) (h : List UInt8) (hl : h.length = 32) (w : World) : (Instr.checkKey em 10000 25 (.agg (hc h))).run Tryz.prog w = .ok () w := by
 obtain ⟨la,hla⟩ := hash_lits h hl
 have := run_checkKey_deep (P := Tryz.prog) em 9998 2 25 (by kernel_rfl) w 2 (.agg (hc h)) la (by
  simp only [Value.formed,Tryz.underlying25,hc_size hl]; kernel_rfl) hla
 exact this
theorem ask_find (w : World) (x : List UInt8) (hx : x.length = 32) : ∀ (L : List Bk) (es : List MapEntry) (k : Nat),(∀ b ∈ L,b.hash.length = 32) → es.map (·.key) = L.map (fun b => Value.agg (hc b.hash)) →
  (findFrom x L k = -1 ∧ (Instr.findAsking 25 (.agg (hc x)) es k).run Tryz.prog w = .ok none w) ∨ ∃ j e,findFrom x L k = ((k + j : Nat) : Int) ∧ es[j]? = some e ∧ (Instr.findAsking 25 (.agg (hc x)) es k).run Tryz.prog w = .ok (some (k + j,e.val)) w
 |[],[],k,_,_ => .inl ⟨rfl,rfl⟩
 |[],e :: es,k,_,h => by simp at h
 |b :: L,[],k,_,h => by simp at h
 |b :: L,e :: es,k,hl,h => by
  rw [List.map_cons,List.map_cons,List.cons.injEq] at h
  have heq := run_equalIn_hashJ w x b.hash hx (hl b (by simp))
  have hrun : (Instr.findAsking 25 (.agg (hc x)) (e :: es) k).run Tryz.prog w = (if decide (x = b.hash) = true then (pure (some (k,e.val)) : Sem (Option (Nat × Value))) else Instr.findAsking 25 (.agg (hc x)) es (k + 1)).run Tryz.prog w := by
   rw [Instr.findAsking]
   rw [Sem.run_bind,show (Op.equal 25 (.agg (hc x)) e.key).run Tryz.prog w = .ok (decide (x = b.hash)) w from by rw [h.1]; exact heq,Result.andThen_ok]
  by_cases hx2 : b.hash = x
  ·right
   refine ⟨0,e,?_,rfl,?_⟩
   ·rw [findFrom,if_pos hx2]; rfl
   ·rw [hrun,decide_eq_true hx2.symm,if_pos rfl,Sem.run_pure,Nat.add_zero]
  ·rw [decide_eq_false (fun e => hx2 e.symm),if_neg Bool.false_ne_true] at hrun
   rcases ask_find w x hx L es (k + 1) (fun y hy => hl y (by simp [hy])) h.2 with ⟨h1,h2⟩ | ⟨j,e',h1,h2,h3⟩
   ·left
    refine ⟨by rw [findFrom,if_neg hx2]; exact h1,?_⟩
    rw [hrun]; exact h2
   ·right
    refine ⟨j + 1,e',by rw [findFrom,if_neg hx2,h1,show k + 1 + j = k + (j + 1) by omega],h2,?_⟩
    rw [hrun,show k + (j + 1) = k + 1 + j by omega]; exact h3
def ptV (ps : List Nat) (z : Int) : Value := if z < 0 then .pointer none else .pointer (some ⟨ps.getD z.toNat 0,0,none⟩)
theorem ptV_none (ps : List Nat) {z : Int} (h : z < 0) : ptV ps z = .pointer none := if_pos h
theorem ptV_some (ps : List Nat) (i : Nat) : ptV ps (i : Int) = .pointer (some ⟨ps.getD i 0,0,none⟩) := by
 unfold ptV
 rw [if_neg (by omega),Int.toNat_natCast]
theorem ptV_one (ps : List Nat) (z : Int) : (ptV ps z).oneCell' = true := by unfold ptV; split <;> rfl
def MapB (w : World) (bm : Nat) (L : List Bk) (ps : List Nat) : Prop :=
 ∃ es clock,w.heap[bm]? = some (.map es clock) ∧ es.toList.map (·.key) = L.map (fun b => Value.agg (hc b.hash)) ∧ ∀ (j : Nat) (e : MapEntry),es.toList[j]? = some e → e.val = ptV ps (j : Int)
theorem MapB.keep {w w' : World} {bm : Nat} {L : List Bk} {ps : List Nat} (h : MapB w bm L ps) (he : w'.heap[bm]? = w.heap[bm]?) : MapB w' bm L ps := by
 obtain ⟨es,c,h1,h2⟩ := h
 exact ⟨es,c,he.trans h1,h2⟩
theorem MapB.lt {w : World} {bm : Nat} {L : List Bk} {ps : List Nat} (h : MapB w bm L ps) : bm < w.heap.size := by
 obtain ⟨es,c,h1,h2⟩ := h
 exact (Array.getElem?_eq_some_iff.1 h1).1
def lookK (m k : Value) (ok : Bool) : Sem Value := Instr.lookup 78 m k ok
@[go_sem ↓ high] theorem look_K (m k : Value) (ok : Bool) : Instr.lookup 78 m k ok = lookK m k ok := rfl
def updK (m k v : Value) : Sem Unit := Instr.mapUpdate 78 m k v
@[go_sem ↓ high] theorem upd_K (m k v : Value) : Instr.mapUpdate 78 m k v = updK m k v := rfl
theorem run_findHash {w : World} {L : List Bk} {es : Array MapEntry} (hL : ∀ b ∈ L,b.hash.length = 32) (hk : es.toList.map (·.key) = L.map (fun b => Value.agg (hc b.hash))) (x : List UInt8) (hx : x.length = 32) :
  (findM L x = -1 ∧ (Instr.findKey 25 (.agg (hc x)) es.toList).run Tryz.prog w = .ok none w) ∨ ∃ (j : Nat) (e : MapEntry),findM L x = (j : Int) ∧ es.toList[j]? = some e ∧ (Instr.findKey 25 (.agg (hc x)) es.toList).run Tryz.prog w = .ok (some (j,e.val)) w := by
 rw [run_findKey_eq w (by rw [Tryz.underlying25]) (.agg (hc x)) es.toList]
 rcases ask_find w x hx L es.toList 0 hL hk with h | ⟨j,e,h1,h2,h3⟩
 ·exact .inl h
 ·rw [Nat.zero_add] at h1 h3
  exact .inr ⟨j,e,h1,h2,h3⟩
theorem MapB.look {w : World} {bm : Nat} {L : List Bk} {ps : List Nat} (h : MapB w bm L ps) (hL : ∀ b ∈ L,b.hash.length = 32) (x : List UInt8) (hx : x.length = 32) : (lookK (.map (some bm)) (.agg (hc x)) false).run Tryz.prog w = .ok (ptV ps (findM L x)) w := by
 obtain ⟨es,clock,hb,hk,hv⟩ := h
 have hz : (zeroValue 70).run Tryz.prog w = .ok (.pointer none) w := by kernel_rfl
 unfold lookK
 rcases run_findHash (w := w) hL hk x hx with ⟨h1,h2⟩ | ⟨j,e,h1,h2,h3⟩
 ·rw [h1,ptV_none ps (by omega)]
  simp [Instr.lookup,run_underlying Tryz.underlying78,MapKept.run_getObj_map hb,run_checkHash _ x hx w,h2,hz,Result.andThen]
 ·rw [h1,← hv j e h2]
  simp [Instr.lookup,run_underlying Tryz.underlying78,MapKept.run_getObj_map hb,run_checkHash _ x hx w,h3,Result.andThen]
theorem MapB.put {w : World} {bm : Nat} {L : List Bk} {ps : List Nat} (h : MapB w bm L ps) (hL : ∀ b ∈ L,b.hash.length = 32) (hps : ps.length = L.length) (b : Bk) (hb32 : b.hash.length = 32) (hn : findM L b.hash < 0) (q : Nat) :
  ∃ w',(updK (.map (some bm)) (.agg (hc b.hash)) (.pointer (some ⟨q,0,none⟩))).run Tryz.prog w = .ok () w' ∧ MapB w' bm (L ++ [b]) (ps ++ [q]) ∧ Fr (fun k => k = bm) w w' ∧ w'.heap.size = w.heap.size := by
 obtain ⟨es,clock,hb,hk,hv⟩ := h
 rcases run_findHash (w := w) hL hk b.hash hb32 with ⟨h1,h2⟩ | ⟨j,e,h1,h2,h3⟩
 ·refine ⟨ChangeMaps.setBlock w bm (.map (es.push ⟨.agg (hc b.hash),.pointer (some ⟨q,0,none⟩),clock⟩) (clock + 1)),?_,?_,?_,?_⟩
  ·unfold updK
   simp [Instr.mapUpdate,run_underlying Tryz.underlying78,MapKept.run_getObj_map hb,run_checkHash _ b.hash hb32 w,h2,MapKept.run_setObj_map _ hb,Result.andThen,ChangeMaps.setBlock]
  ·refine ⟨_,_,ChangeMaps.heap_setBlock_same hb _,?_,?_⟩
   ·simp [hk]
   ·intro j e he
    have hsz : es.toList.length = L.length := by have := congrArg List.length hk; simpa using this
    rw [Array.toList_push] at he
    by_cases hj : j < es.toList.length
    ·rw [List.getElem?_append_left hj] at he
     rw [hv j e he,ptV_some,ptV_some,List.getD_eq_getElem?_getD,List.getD_eq_getElem?_getD,List.getElem?_append_left (by omega)]
    ·have hj2 : j = es.toList.length := by
      have := (List.getElem?_eq_some_iff.1 he).1
      simp at this hj
      simp
      omega
     subst hj2
     rw [List.getElem?_append_right (Nat.le_refl _),Nat.sub_self] at he
     simp at he
     subst he
     rw [ptV_some,List.getD_eq_getElem?_getD,List.getElem?_append_right (by omega),hsz,hps,Nat.sub_self]
     rfl
  ·exact ⟨rfl,rfl,rfl,by simp [ChangeMaps.setBlock],fun i _ hi => ChangeMaps.heap_setBlock_other hb _ (fun e => hi (by rw [e]))⟩
  ·simp [ChangeMaps.setBlock]
 ·omega
end Go.Proofs.YtedffdlkmpmdlaaGreatDoor
namespace Go.Proofs.YtedffdlkmpmdlaaGreatDoor
set_option maxRecDepth 100000
set_option linter.unusedVariables false
set_option linter.unusedSimpArgs false
open Go.RowKit
theorem wp_newK {P : Program} {c : Code} {Q : Exit → Act → World → Prop} {a : Act} {w : World} {t : TypeId}
  (k : ∀ W Z,Z.size = 32 → NewRow w W w.heap.size Z t → Code.wp P c Q a W) : Code.wp P c Q a (w.alloc (.cells #[Value.int IntKind.u8 0,Value.int IntKind.u8 0,Value.int IntKind.u8 0,Value.int IntKind.u8 0,Value.int IntKind.u8 0,Value.int IntKind.u8 0,Value.int IntKind.u8 0,Value.int IntKind.u8 0,Value.int IntKind.u8 0,Value.int IntKind.u8 0,Value.int IntKind.u8 0,Value.int IntKind.u8 0,Value.int IntKind.u8 0,Value.int IntKind.u8 0,Value.int IntKind.u8 0,Value.int IntKind.u8 0,Value.int IntKind.u8 0,Value.int IntKind.u8 0,Value.int IntKind.u8 0,Value.int IntKind.u8 0,Value.int IntKind.u8 0,Value.int IntKind.u8 0,Value.int IntKind.u8 0,Value.int IntKind.u8 0,Value.int IntKind.u8 0,Value.int IntKind.u8 0,Value.int IntKind.u8 0,Value.int IntKind.u8 0,Value.int IntKind.u8 0,Value.int IntKind.u8 0,Value.int IntKind.u8 0,Value.int IntKind.u8 0] t)) := wp_new fun W N => k W _ rfl N
def hdT (H : List Hd) (i : Nat) : Hd := H.getD i ⟨0,[],[],0,0,0⟩
def treC (R : Array Value) (bm : Nat) (v : Value) (tips : Nat) : Array Value := (R.toList ++ [.map (some bm),v,.int .i64 (tips : Int)]).toArray
section
variable {R : Array Value} {bm : Nat} {v : Value} {tips : Nat}
theorem treC_size (h : R.size = 72) : (treC R bm v tips).size = 75 := by simp [treC,h]
theorem treC_lo (h : R.size = 72) (j : Nat) (hj : j < 72) : (treC R bm v tips)[j]? = R[j]? := by
 rw [treC,List.getElem?_toArray,List.getElem?_append_left (by rw [Array.length_toList]; omega),Array.getElem?_toList]
theorem treC_72 (h : R.size = 72) : (treC R bm v tips)[72]? = some (.map (some bm)) := by
 rw [treC,List.getElem?_toArray,List.getElem?_append_right (by rw [Array.length_toList]; omega),Array.length_toList,h]; rfl
theorem treC_73 (h : R.size = 72) : (treC R bm v tips)[73]? = some v := by
 rw [treC,List.getElem?_toArray,List.getElem?_append_right (by rw [Array.length_toList]; omega),Array.length_toList,h]; rfl
theorem treC_74 (h : R.size = 72) : (treC R bm v tips)[74]? = some (.int .i64 (tips : Int)) := by
 rw [treC,List.getElem?_toArray,List.getElem?_append_right (by rw [Array.length_toList]; omega),Array.length_toList,h]; rfl
theorem treC_set73 (h : R.size = 72) (v2 : Value) : (treC R bm v tips).setIfInBounds 73 v2 = treC R bm v2 tips := by
 unfold treC
 rw [List.setIfInBounds_toArray,List.set_append_right _ _ (by rw [Array.length_toList]; omega),Array.length_toList,h]; rfl
theorem treC_set74 (h : R.size = 72) (k : Nat) : (treC R bm v tips).setIfInBounds 74 (.int .i64 (k : Int)) = treC R bm v k := by
 unfold treC
 rw [List.setIfInBounds_toArray,List.set_append_right _ _ (by rw [Array.length_toList]; omega),Array.length_toList,h]; rfl
end
def chn (L : List Bk) : List (List UInt8) := (lineM L (bestM L)).map fun k => (bkT L k).hash
def blkOf (H : List Hd) (L : List Bk) (ps : List Nat) (i : Nat) : Array Value := blkC (hdT H i) (bkT L i).hash (ptV ps (bkT L i).ahead) (heightM L i) (workM L i) (isTip L i)
structure TI (H : List Hd) (L : List Bk) (ps : List Nat) : Prop where
 wf : WFt L
 one : OneR L
 nh : NH L
 pos : 0 < L.length
 small : L.length ≤ 5000
 plen : ps.length = L.length
 hlen : H.length = L.length
 hd : ∀ i,i < L.length → (hdT H i).Ok ∧ (bkT L i).hash = sha2 (hdT H i).bytes ∧ (bkT L i).time = (hdT H i).time ∧ (bkT L i).bits = (hdT H i).bits
 inj : ∀ i j,i < L.length → j < L.length → ps.getD i 0 = ps.getD j 0 → i = j
 wk : ∀ i,i < L.length → workM L i < W256
theorem TI.h32 {H : List Hd} {L : List Bk} {ps : List Nat} (I : TI H L ps) : ∀ b ∈ L,b.hash.length = 32 := fun b hb => (I.wf.ok b hb).hash
theorem TI.at32 {H : List Hd} {L : List Bk} {ps : List Nat} (I : TI H L ps) {i : Nat} (hi : i < L.length) : (bkT L i).hash.length = 32 := (I.wf.at hi).hash
theorem TI.best {H : List Hd} {L : List Bk} {ps : List Nat} (I : TI H L ps) : bestM L < L.length := best_lt I.pos
theorem TI.chn_len {H : List Hd} {L : List Bk} {ps : List Nat} (I : TI H L ps) : (chn L).length = heightM L (bestM L) + 1 ∧ (chn L).length ≤ 5000 := by
 have h1 := line_len I.wf I.best
 have h2 := anc_len I.wf _ I.best
 have h3 := I.best
 have h4 := I.small
 unfold chn
 rw [List.length_map]
 refine ⟨h1,?_⟩
 rw [h1]
 unfold heightM
 omega
theorem TI.height {H : List Hd} {L : List Bk} {ps : List Nat} (I : TI H L ps) {i : Nat} (hi : i < L.length) : heightM L i < 5000 := by
 have h2 := anc_len I.wf _ hi
 have h4 := I.small
 unfold heightM
 omega
theorem TI.blk_size {H : List Hd} {L : List Bk} {ps : List Nat} (I : TI H L ps) {i : Nat} (hi : i < L.length) : (blkOf H L ps i).size = 107 := blkC_size (I.hd i hi).1 (I.at32 hi)
structure TM (w : World) (p : Nat) (R : Array Value) (bm : Nat) (H : List Hd) (L : List Bk) (ps : List Nat) (v : Value) (ch : List (List UInt8)) : Prop where
 top : w.heap[p]? = some (.cells (treC R bm v (tipsM L)) 80 (0,0))
 map : MapB w bm L ps
 blk : ∀ i,i < L.length → w.heap[ps.getD i 0]? = some (.cells (blkOf H L ps i) 77 (0,0))
 own : OwnL 25 0 w v ch
theorem TM.fr {w w' : World} {p : Nat} {R : Array Value} {bm : Nat} {H : List Hd} {L : List Bk} {ps : List Nat} {v : Value} {ch : List (List UInt8)} (h : TM w p R bm H L ps v ch) (f : Fr F0 w w') : TM w' p R bm H L ps v ch :=
 ⟨keep_fr f h.top,h.map.keep (f.block _ h.map.lt fun e => e),fun i hi => keep_fr f (h.blk i hi),h.own.fr0 f⟩
theorem TM.chain {w : World} {p : Nat} {R : Array Value} {bm : Nat} {H : List Hd} {L : List Bk} {ps : List Nat} {v : Value} {ch : List (List UInt8)} (h : TM w p R bm H L ps v ch) : ∃ a c,v = .slice a ch.length c ∧ Hs w a c ch := h.own.is
theorem kBlock_any {w : World} {p : Nat} {R : Array Value} {bm : Nat} {H : List Hd} {L : List Bk} {ps : List Nat} {v : Value} {ch : List (List UInt8)} (hR : R.size = 72) (I : TI H L ps) (T : TM w p R bm H L ps v ch) (h : List UInt8) (hh : h.length = 32) :
  Calls Tryz.prog 52 #[.pointer (some ⟨p,0,none⟩),.agg (hc h)] w fun e w' => e = .returned (ptV ps (findM L h)) ∧ Fr F0 w w' := by
 have sh := hc_size hh
 have oh := hc_one h
 have HL := Lib.hid (fun W (f : Fr F0 w W) => (T.fr f).map.look I.h32 h hh)
 have r1 := T.top
 have sC := treC_size (bm := bm) (v := v) (tips := tipsM L) hR
 have c72 := treC_72 (bm := bm) (v := v) (tips := tipsM L) hR
 generalize treC R bm v (tipsM L) = C at *
 generalize ptV ps (findM L h) = V at *
 generalize hc h = A at *
 have s72 : 72 < C.size := by omega
 have d72 := cell_is c72 s72
 replace r1 := keep_alloc (o := .cells A 25) r1
 have r0 := heap_alloc_new w (.cells A 25)
 have F := (Fr.refl F0 w).alloc (.cells A 25)
 clear T I hR hh
 go_enter Tryz.func52,Tryz.ntmps52
 go_wp2_with fail
 generalize hW : w.alloc (.cells A 25) = W at *
 generalize w.heap.size = g0 at *
 clear hW
 refine rbegin (S := (fun w' => (w'.heap[p]? = some (.cells C 80 (0,0)) ∧ w'.heap[g0]? = some (.cells A 25 (0,0)) ∧ (lookK (.map (some bm)) (.agg A) false).run Tryz.prog w' = .ok V w') ∧ Fr F0 w w')) ?_ fun hHeld => ?_
 ·((try dsimp only) <;> (exact ⟨⟨r1,r0,HL.out _ F.drew⟩,F.drew⟩))
 refine rtake 0 ?_
 refine rtake 1 ?_
 refine rtake 2 ?_
 refine rtake 3 ?_
 refine rtake 4 ?_
 refine rone 5 fun K hK => ?_
 go_simp
 refine hK.out _ _ ?_ (fun hHeld => ?_)
 ·((try dsimp only) <;> (exact hHeld))
 clear hK K
 try (simp only [Act.put,aST]; dsimp only [aS0,aS1])
 refine rtake 6 ?_
 refine rdone ?_
 all_goals
  have f := hHeld.2
  go_wp2_with fail
  go_ret
  exact ⟨rfl,f⟩
theorem kLongest_any {w : World} {p : Nat} {R : Array Value} {bm : Nat} {H : List Hd} {L : List Bk} {ps : List Nat} {v : Value} {ch : List (List UInt8)} (hR : R.size = 72) (T : TM w p R bm H L ps v ch) :
  Calls Tryz.prog 51 #[.pointer (some ⟨p,0,none⟩)] w fun e w' => e = .returned (.int .i64 (ch.length : Int)) ∧ w' = w := by
 have r1 := T.top
 obtain ⟨a,c,ev,hv⟩ := T.chain
 have sC := treC_size (bm := bm) (v := v) (tips := tipsM L) hR
 have c73 := treC_73 (bm := bm) (v := v) (tips := tipsM L) hR
 generalize treC R bm v (tipsM L) = C at *
 subst ev
 generalize ch.length = n at *
 have s73 : 73 < C.size := by omega
 have d73 := cell_is c73 s73
 clear T hv hR
 go_enter Tryz.func51,Tryz.ntmps51
 go_wp2_with fail
 go_ret
 exact ⟨rfl,rfl⟩
end Go.Proofs.YtedffdlkmpmdlaaGreatDoor
namespace Go.Proofs.YtedffdlkmpmdlaaGreatDoor
set_option maxRecDepth 100000
set_option linter.unusedVariables false
set_option linter.unusedSimpArgs false
open Go.RowKit
def atM (ch : List (List UInt8)) (z : Int) : List UInt8 := if 0 ≤ z ∧ z < (ch.length : Int) then ch.getD z.toNat [] else z32
theorem kAt_any {w : World} {p : Nat} {R : Array Value} {bm : Nat} {H : List Hd} {L : List Bk} {ps : List Nat} {v : Value} {ch : List (List UInt8)} (hR : R.size = 72) (T : TM w p R bm H L ps v ch) (z : Int) :
  Calls Tryz.prog 49 #[.pointer (some ⟨p,0,none⟩),.int .i64 z] w fun e w' => e = .returned (.tuple #[.agg (hc (atM ch z)),.bool (decide (0 ≤ z ∧ z < (ch.length : Int)))]) ∧ Fr F0 w w' := by
 have sz := hc_size z32_length
 have oz := hc_one z32
 have HLN := Lib.hid (fun W (f : Fr F0 w W) => kLongest_any hR (T.fr f))
 obtain ⟨a,c,ev,hv⟩ := T.chain
 have HV := Lib.hid hv
 have r1 := T.top
 have sC := treC_size (bm := bm) (v := v) (tips := tipsM L) hR
 have c73 := treC_73 (bm := bm) (v := v) (tips := tipsM L) hR
 have H32 := Lib.hid T.own.ok
 generalize treC R bm v (tipsM L) = C at *
 subst ev
 unfold atM
 generalize ch = l at *
 generalize hn : l.length = n at *
 have HN := Lib.hid hn
 have s73 : 73 < C.size := by omega
 have d73 := cell_is c73 s73
 clear T hv hR hn
 by_cases h0 : z < 0
 ·have l0 : decide (z < 0) = true := decide_eq_true h0
  rw [if_neg (by omega),decide_eq_false (by omega)]
  go_enter Tryz.func49,Tryz.ntmps49
  go_upto_region 1 with fail
  refine wp_newK fun W1 Z sZ N1 => ?_
  have r2 := N1.new
  have F := N1.fr
  clear N1
  obtain ⟨g2,hg2⟩ : ∃ g,g = w.heap.size := ⟨_,rfl⟩
  rw [← hg2] at r2 ⊢
  have g2l : Hid (¬ g2 < w.heap.size) := by rw [Hid]; omega
  clear hg2
  have q2 := Lib.hid (setRow_heap _ _ _ (hc z32) _ _ r2)
  have F9 := Lib.hid (F.setRow (fun h => absurd h g2l.out) (hc z32))
  replace g2l := Lib.hid g2l
  go_wp2
  refine bodyPost_ret (results_cell_row_tmp rfl _ _ g2 _ _ _ _ rfl q2.out Tryz.underlying25 rfl (by rw [Tryz.szHashJ,sz])) rfl ⟨rfl,F9.out⟩
 ·obtain ⟨k,rfl⟩ := Int.eq_ofNat_of_zero_le (show 0 ≤ z by omega)
  rw [Int.toNat_natCast]
  have l0 : decide ((k : Int) < 0) = false := decide_eq_false h0
  obtain ⟨Y,hY⟩ : ∃ Y,hc (if 0 ≤ (k : Int) ∧ (k : Int) < (n : Int) then l.getD k [] else z32) = Y := ⟨_,rfl⟩
  obtain ⟨q,hq⟩ : ∃ q,decide (0 ≤ (k : Int) ∧ (k : Int) < (n : Int)) = q := ⟨_,rfl⟩
  rw [hY,hq]
  have HY := Lib.hid (And.intro hY hq)
  clear hY hq
  go_enter Tryz.func49,Tryz.ntmps49
  go_upto_region 1 with fail
  refine wp_newK fun W1 Z sZ N1 => ?_
  have r2 := N1.new
  replace r1 := N1.old r1
  have F := N1.fr
  clear N1
  obtain ⟨g2,hg2⟩ : ∃ g,g = w.heap.size := ⟨_,rfl⟩
  rw [← hg2] at r2 ⊢
  have g2l : Hid (¬ g2 < w.heap.size) := by rw [Hid]; omega
  clear hg2
  go_wp2_with fail
  (with_reducible refine (HLN.out _ F).mono ?_); rintro e w2 ⟨rfl,hw⟩; replace hw := hw.symm; subst hw
  by_cases h1 : k < n
  ·have l1 : (k : Int) < (n : Int) := by omega
   have l2 : decide ((n : Int) ≤ (k : Int)) = false := decide_eq_false (by omega)
   obtain ⟨hY,hq⟩ := HY.out
   rw [if_pos ⟨by omega,l1⟩] at hY
   rw [decide_eq_true (⟨by omega,l1⟩ : 0 ≤ (k : Int) ∧ (k : Int) < (n : Int))] at hq
   subst hY hq
   clear HY
   obtain ⟨b,off,ea,hld,_⟩ := HV.out.load k (by rw [HN.out]; exact h1)
   subst ea
   have ld := hld _ F
   have s5 := hc_size (H32.out.get (show k < l.length by rw [HN.out]; exact h1))
   have o5 := hc_one (l.getD k [])
   obtain ⟨X,hX⟩ : ∃ X,hc (l.getD k []) = X := ⟨_,rfl⟩
   rw [hX] at ld s5 o5
   have HX := Lib.hid hX
   clear hX
   have q2 := Lib.hid (setRow_heap _ _ _ X _ _ r2)
   have F9 := Lib.hid (F.setRow (fun h => absurd h g2l.out) X)
   replace g2l := Lib.hid g2l
   clear hld HLN
   go_wp2
   refine bodyPost_ret (results_cell_row_tmp rfl _ _ g2 _ _ _ _ rfl q2.out Tryz.underlying25 rfl (by rw [Tryz.szHashJ,s5])) rfl ⟨by rw [HX.out]; rfl,F9.out⟩
  ·have l1 : ¬ (k : Int) < (n : Int) := by omega
   have l2 : decide ((n : Int) ≤ (k : Int)) = true := decide_eq_true (by omega)
   obtain ⟨hY,hq⟩ := HY.out
   rw [if_neg (by omega)] at hY
   rw [decide_eq_false (by omega)] at hq
   subst hY hq
   clear HY
   have q2 := Lib.hid (setRow_heap _ _ _ (hc z32) _ _ r2)
   have F9 := Lib.hid (F.setRow (fun h => absurd h g2l.out) (hc z32))
   replace g2l := Lib.hid g2l
   clear HLN
   go_wp2
   refine bodyPost_ret (results_cell_row_tmp rfl _ _ g2 _ _ _ _ rfl q2.out Tryz.underlying25 rfl (by rw [Tryz.szHashJ,sz])) rfl ⟨rfl,F9.out⟩
end Go.Proofs.YtedffdlkmpmdlaaGreatDoor
namespace Go.Proofs.YtedffdlkmpmdlaaGreatDoor
set_option maxRecDepth 100000
set_option linter.unusedVariables false
set_option linter.unusedSimpArgs false
open Go.RowKit
theorem TI.at_best {H : List Hd} {L : List Bk} {ps : List Nat} (I : TI H L ps) : (chn L).getD ((chn L).length - 1) [] = (bkT L (bestM L)).hash := by
 have e : (chn L).length - 1 = heightM L (bestM L) := by have := I.chn_len.1; omega
 rw [e]
 unfold chn
 have := line_last I.wf I.best
 rw [List.getD_eq_getElem?_getD,List.getElem?_map,this]
 rfl
theorem kBest_any {w : World} {p : Nat} {R : Array Value} {bm : Nat} {H : List Hd} {L : List Bk} {ps : List Nat} {v : Value} {ch : List (List UInt8)} (hR : R.size = 72) (T : TM w p R bm H L ps v ch) (h0 : 0 < ch.length) (hl : ch.length ≤ 100000) :
  Calls Tryz.prog 24 #[.pointer (some ⟨p,0,none⟩)] w fun e w' => e = .returned (.agg (hc (ch.getD (ch.length - 1) []))) ∧ Fr F0 w w' := by
 have sz := hc_size z32_length
 have oz := hc_one z32
 have HLN := Lib.hid (fun W (f : Fr F0 w W) => kLongest_any hR (T.fr f))
 have HAT := Lib.hid (fun W (f : Fr F0 w W) => kAt_any hR (T.fr f) ((ch.length : Int) - 1))
 rw [show atM ch ((ch.length : Int) - 1) = ch.getD (ch.length - 1) [] from by unfold atM; rw [if_pos (by omega),show ((ch.length : Int) - 1).toNat = ch.length - 1 by omega]] at HAT
 have h32 := T.own.ok.get (show ch.length - 1 < ch.length by omega)
 have sX := hc_size h32
 have oX := hc_one (ch.getD (ch.length - 1) [])
 generalize hc (ch.getD (ch.length - 1) []) = X at *
 clear h32
 generalize ch.length = n at *
 have m1 : IntKind.i64.wrap ((n : Int) - 1) = (n : Int) - 1 := by rw [IntWalk.i64_in _ (by omega)]
 clear T hR
 go_enter Tryz.func24,Tryz.ntmps24
 go_upto_region 1 with fail
 refine wp_newK fun W1 Z sZ N1 => ?_
 have r2 := N1.new
 have F := N1.fr
 clear N1
 obtain ⟨g2,hg2⟩ : ∃ g,g = w.heap.size := ⟨_,rfl⟩
 rw [← hg2] at r2 ⊢
 have g2l : Hid (¬ g2 < w.heap.size) := by rw [Hid]; omega
 clear hg2
 go_wp2_with fail
 (with_reducible refine (HLN.out _ F).mono ?_); rintro e w2 ⟨rfl,hw⟩; replace hw := hw.symm; subst hw
 go_wp2_with fail
 (with_reducible refine (HAT.out _ F).mono ?_); rintro e w3 ⟨rfl,f⟩
 replace r2 := keep_fr f r2
 replace F := F.trans' f
 clear f
 go_upto_region 2 with fail
 refine wp_put fun W4 N4 => ?_
 have r3 := N4.new
 replace r2 := N4.old r2
 replace F := F.trans' N4.fr
 clear N4
 generalize w3.heap.size = g3 at *
 have q2 := Lib.hid (setRow_heap _ _ _ X _ _ r2)
 have F9 := Lib.hid (F.setRow (fun h => absurd h g2l.out) X)
 replace g2l := Lib.hid g2l
 go_wp2
 refine bodyPost_ret (results_cell_row rfl _ _ g2 _ _ _ _ rfl q2.out Tryz.underlying25 rfl (by rw [Tryz.szHashJ,sX])) rfl ⟨rfl,F9.out⟩
theorem kTips_any {w : World} {p : Nat} {R : Array Value} {bm : Nat} {H : List Hd} {L : List Bk} {ps : List Nat} {v : Value} {ch : List (List UInt8)} (hR : R.size = 72) (T : TM w p R bm H L ps v ch) :
  Calls Tryz.prog 13 #[.pointer (some ⟨p,0,none⟩)] w fun e w' => e = .returned (.int .i64 (tipsM L : Int)) ∧ w' = w := by
 have r1 := T.top
 have sC := treC_size (bm := bm) (v := v) (tips := tipsM L) hR
 have c74 := treC_74 (bm := bm) (v := v) (tips := tipsM L) hR
 generalize treC R bm v (tipsM L) = C at *
 generalize tipsM L = n at *
 have s74 : 74 < C.size := by omega
 have d74 := cell_is c74 s74
 clear T hR
 go_enter Tryz.func13,Tryz.ntmps13
 go_wp2_with fail
 go_ret
 exact ⟨rfl,rfl⟩
theorem MapB.len {w : World} {bm : Nat} {L : List Bk} {ps : List Nat} (h : MapB w bm L ps) (ty : TypeId) : (Builtin.len_ #[78] ty #[.map (some bm)]).run Tryz.prog w = .ok (.int .i64 (L.length : Int)) w := by
 obtain ⟨es,c,hb,h2,_⟩ := h
 have e : es.size = L.length := by have := congrArg List.length h2; simpa using this
 simp [Builtin.len_,run_underlying Tryz.underlying78,MapKept.run_getObj_map hb,goInt,Result.andThen,e]
theorem kLen_any {w : World} {p : Nat} {R : Array Value} {bm : Nat} {H : List Hd} {L : List Bk} {ps : List Nat} {v : Value} {ch : List (List UInt8)} (hR : R.size = 72) (T : TM w p R bm H L ps v ch) :
  Calls Tryz.prog 14 #[.pointer (some ⟨p,0,none⟩)] w fun e w' => e = .returned (.int .i64 (L.length : Int)) ∧ w' = w := by
 have r1 := T.top
 have hm := T.map.len
 have sC := treC_size (bm := bm) (v := v) (tips := tipsM L) hR
 have c72 := treC_72 (bm := bm) (v := v) (tips := tipsM L) hR
 generalize treC R bm v (tipsM L) = C at *
 have s72 : 72 < C.size := by omega
 have d72 := cell_is c72 s72
 clear T hR
 go_enter Tryz.func14,Tryz.ntmps14
 go_wp2_with fail
 go_ret
 exact ⟨rfl,rfl⟩
theorem kHeight_any {w : World} {p : Nat} {R : Array Value} {bm : Nat} {H : List Hd} {L : List Bk} {ps : List Nat} {v : Value} {ch : List (List UInt8)} (hR : R.size = 72) (I : TI H L ps) (T : TM w p R bm H L ps v ch) (i : Nat) (hi : i < L.length) :
  Calls Tryz.prog 25 #[.pointer (some ⟨p,0,none⟩),.agg (hc (bkT L i).hash)] w fun e w' => e = .returned (.tuple #[.int .i64 (heightM L i : Int),.bool true]) ∧ Fr F0 w w' := by
 have HB := Lib.hid (fun W (f : Fr F0 w W) => kBlock_any hR I (T.fr f) (bkT L i).hash (I.at32 hi))
 rw [findM_at I.nh hi,ptV_some] at HB
 have r1 := T.blk i hi
 have sC := I.blk_size hi
 have c101 : (blkOf H L ps i)[101]? = some (.int .i64 (heightM L i : Int)) := blkC_ht (I.hd i hi).1 (I.at32 hi)
 have sA := hc_size (I.at32 hi)
 have oA := hc_one (bkT L i).hash
 generalize hc (bkT L i).hash = A at *
 generalize blkOf H L ps i = C at *
 generalize heightM L i = n at *
 generalize ps.getD i 0 = q at *
 have s101 : 101 < C.size := by omega
 have d101 := cell_is c101 s101
 clear T I hR hi
 go_enter Tryz.func25,Tryz.ntmps25
 go_wp2_with fail
 refine calls_new fun W1 N1 => ?_
 replace r1 := N1.old r1
 have F := N1.fr
 clear N1
 (with_reducible refine (HB.out _ F).mono ?_); rintro e w2 ⟨rfl,f⟩
 replace r1 := keep_fr f r1
 replace F := F.trans' f
 clear f
 go_wp2_with fail
 go_ret2
 exact ⟨rfl,F⟩
theorem kWork_any {w : World} {p : Nat} {R : Array Value} {bm : Nat} {H : List Hd} {L : List Bk} {ps : List Nat} {v : Value} {ch : List (List UInt8)} (hR : R.size = 72) (I : TI H L ps) (T : TM w p R bm H L ps v ch) (i : Nat) (hi : i < L.length) :
  Calls Tryz.prog 64 #[.pointer (some ⟨p,0,none⟩),.agg (hc (bkT L i).hash)] w fun e w' => e = .returned (.agg (rowN .u64 64 4 (workM L i))) ∧ Fr F0 w w' := by
 have HB := Lib.hid (fun W (f : Fr F0 w W) => kBlock_any hR I (T.fr f) (bkT L i).hash (I.at32 hi))
 rw [findM_at I.nh hi,ptV_some] at HB
 have r1 := T.blk i hi
 have sC := I.blk_size hi
 have cwk : ∀ j,j < 4 → (blkOf H L ps i)[102 + j]? = (rowN .u64 64 4 (workM L i))[j]? := fun j hj => blkC_wk (I.hd i hi).1 (I.at32 hi) j hj
 have sA := hc_size (I.at32 hi)
 have oA := hc_one (bkT L i).hash
 generalize hc (bkT L i).hash = A at *
 generalize blkOf H L ps i = C at *
 generalize workM L i = n at *
 generalize ps.getD i 0 = q at *
 have HLD := Lib.hid (fun W (h : W.heap[q]? = some (.cells C 77 (0,0))) => show (loadRowAt 73 (.pointer (some ⟨q,102,none⟩))).run Tryz.prog W = .ok (.agg (rowN .u64 64 4 n)) W from by
  have := run_loadAt_mid (P := Tryz.prog) W q 102 73 (rowN .u64 64 4 n).toList _ (fun j u hj => by
   have hl : j < 4 := by have := (List.getElem?_eq_some_iff.1 hj).1; rw [rowN_len4] at this; exact this
   rw [cell_of_row W q (102 + j) _ _ _ h,cwk j hl]
   simpa using hj) Tryz.underlying73 rfl (by rw [rowN_len4]; kernel_rfl)
  rw [Array.toArray_toList] at this
  exact this)
 clear T I hR hi cwk
 go_enter Tryz.func64,Tryz.ntmps64
 go_wp2_with fail
 refine calls_new fun W1 N1 => ?_
 have r2 := N1.new
 have F := ((Fr.refl F0 w).alloc (.cells A 25)).trans' N1.fr
 replace r1 := N1.old (keep_alloc r1)
 rw [World.size_alloc] at r2
 clear N1
 have hg : ¬ w.heap.size + 1 < w.heap.size := by omega
 generalize w.heap.size + 1 = g2 at *
 replace hg := Lib.hid hg
 (with_reducible refine (HB.out _ F).mono ?_); rintro e w2 ⟨rfl,f⟩
 replace r1 := keep_fr f r1
 replace r2 := keep_fr f r2
 replace F := F.trans' f
 clear f
 have ld := HLD.out _ r1
 have F9 := Lib.hid (F.setRow (fun h => absurd h hg.out) (rowN .u64 64 4 n))
 have q2 := Lib.hid (setRow_heap _ _ _ (rowN .u64 64 4 n) _ _ r2)
 go_wp2
 refine bodyPost_ret (results_cell_row rfl _ _ g2 _ _ _ _ rfl q2.out Tryz.underlying73 rfl (by kernel_rfl)) rfl ⟨rfl,F9.out⟩
end Go.Proofs.YtedffdlkmpmdlaaGreatDoor
namespace Go.Proofs.YtedffdlkmpmdlaaGreatDoor
set_option maxRecDepth 100000
set_option linter.unusedVariables false
set_option linter.unusedSimpArgs false
open Go.RowKit
def lenV : Value → Nat
 |.slice _ n _ => n
 |_ => 0
theorem run_makeV11 (w : World) : ∃ C,(Instr.makeSlice 116 (.int .i64 0) (.int .i64 11)).run Tryz.prog w = .ok (.slice (some ⟨w.heap.size,0,none⟩) 0 11) (w.alloc (.cells C 23)) ∧ OwnV w.heap.size (w.alloc (.cells C 23)) (.slice (some ⟨w.heap.size,0,none⟩) 0 11) [] := by
 obtain ⟨i0,hi,hz,hs,hb⟩ := info_parts Tryz.infoU32
 have := run_make (P := Tryz.prog) w 116 23 i0 _ Tryz.underlying116 hi hz .i64 .i64 0 11 (by omega) (by omega) (by rw [hb]; omega) (by omega)
 exact ⟨_,this,World.ownsRow_made w _ 11 (Nat.zero_le _) (by unfold maxLen; omega) (by rw [size_madeCells,hs]; rfl),fun k hk => by cases hk; exact Nat.le_refl _⟩
theorem kMedian_any {w : World} {p : Nat} {R : Array Value} {bm : Nat} {H : List Hd} {L : List Bk} {ps : List Nat} {v : Value} {ch : List (List UInt8)} (I : TI H L ps) (T : TM w p R bm H L ps v ch) (i : Nat) (hi : i < L.length) :
  Calls Tryz.prog 39 #[.pointer (some ⟨ps.getD i 0,0,none⟩)] w fun e w' => e = .returned (.int .u32 ((medianM L i : Nat) : Int)) ∧ Fr F0 w w' := by
 have HP := Lib.hid (anc_len I.wf i hi)
 have HT := Lib.hid T
 have HI := Lib.hid I
 have HM := Lib.hid (fun (done : List Nat) a c n W (h : OwnV w.heap.size W (.slice a n c) (done.map fun k => (bkT L k).time)) (hn : n = done.length) (h0 : 0 < n) (h11 : n ≤ 11) (hd : (anc L i).take 11 = done) =>
  show Calls Tryz.prog 62 #[.slice a n c] W fun e w' => e = .returned (.int .u32 ((medianM L i : Nat) : Int)) ∧ Fr F0 W w' from by
   have hl : (done.map fun k => (bkT L k).time).length = n := by rw [List.length_map,hn]
   have := jMedian_any a c (done.map fun k => (bkT L k).time) W h.vs.2 (by intro e; rw [e] at hl; simp at hl; omega) (by omega)
   rw [hl] at this
   refine this.mono ?_
   rintro e w' ⟨⟨Lp,hp,hs,rfl⟩,f⟩
   refine ⟨?_,f⟩
   have := medianM_is (L := L) (i := i) (l := done.map fun k => (bkT L k).time) (Lp := Lp) (by rw [hd]) hp (by rw [hl]; exact hs)
   rw [hl] at this
   rw [this])
 obtain ⟨C0,hmk,ho⟩ := run_makeV11 w
 have F := (Fr.refl F0 w).alloc (.cells C0 23)
 have HI0 := Lib.hid hi
 have hq0 : Value.pointer (some ⟨ps.getD i 0,0,none⟩) = ptV ps (i : Int) := (ptV_some ps i).symm
 rw [hq0]
 obtain ⟨pv,hpv⟩ : ∃ pv,pv = ptV ps (i : Int) := ⟨_,rfl⟩
 rw [← hpv]
 have HPV := Lib.hid hpv
 clear hq0 hpv T I hi
 go_enter Tryz.func39,Tryz.ntmps39
 go_wp2_with fail
 clear hmk
 generalize hW : w.alloc (.cells C0 23) = W at *
 obtain ⟨g0,hg0⟩ : ∃ g0,w.heap.size = g0 := ⟨_,rfl⟩
 rw [hg0] at ho ⊢
 clear hW
 go_loopw [0,3] (fun bv sv wr => ∃ (done : List Nat) (n : Nat) (z : Int) (a : Option Addr) (c : Nat),bv = ptV ps z ∧ sv = .slice a n c ∧ n = done.length ∧ n ≤ 11 ∧ OwnV w.heap.size wr (.slice a n c) (done.map fun k => (bkT L k).time) ∧ Fr F0 w wr ∧
  ((z < 0 ∧ anc L i = done) ∨ ∃ j : Nat,z = j ∧ j < L.length ∧ anc L i = done ++ anc L j)) (fun _ sv _ => 11 - lenV sv)
 case atStart => exact ⟨[],0,i,_,11,HPV.out,rfl,rfl,by omega,by rw [hg0]; exact ho,F,.inr ⟨i,rfl,HI0.out,rfl⟩⟩
 case round =>
  clear ho F hg0
  obtain ⟨done,n,z,a,c,rfl,rfl,hnd,hn11,hv,F,hcase⟩ := hrel
  have hstop : (z < 0 ∨ n = 11) → (anc L i).take 11 = done ∧ 0 < n := by
   intro hs
   have e : (anc L i).take 11 = done := by
    rcases hs with hs | hs
    ·rcases hcase with ⟨_,h⟩ | ⟨j,h,_⟩
     ·rw [h]; exact List.take_of_length_le (by omega)
     ·omega
    ·rcases hcase with ⟨_,h⟩ | ⟨j,_,_,h⟩
     ·rw [h]; exact List.take_of_length_le (by omega)
     ·rw [h,List.take_append_of_le_length (by omega)]
      exact List.take_of_length_le (by omega)
   refine ⟨e,?_⟩
   have h1 := HP.out.1
   rw [hnd,← e,List.length_take]
   omega
  by_cases h1 : z < 0 ∨ n = 11
  ·obtain ⟨hd,hpos⟩ := hstop h1
   have HX := Lib.hid (HM.out done a c n wr hv hnd hpos hn11 hd)
   have hFF := Lib.hid F
   have hsplit : (ptV ps z = .pointer none) ∨ (∃ q : Nat,ptV ps z = .pointer (some ⟨q,0,none⟩)) ∧ ¬ (n : Int) < 11 ∧ ¬ n < 11 := by
    by_cases hz : z < 0
    ·exact .inl (ptV_none ps hz)
    ·refine .inr ⟨⟨ps.getD z.toNat 0,?_⟩,by omega,by omega⟩
     obtain ⟨k,rfl⟩ := Int.eq_ofNat_of_zero_le (show 0 ≤ z by omega)
     exact ptV_some ps k
   clear hstop hcase hd hpos hnd hn11 hv F h1
   generalize ptV ps z = pz at *
   rcases hsplit with rfl | ⟨⟨q,rfl⟩,l1,l2⟩
   ·go_wp2_with fail
    (with_reducible refine (HX.out).mono ?_); rintro e w9 ⟨rfl,f⟩
    go_wp2_with fail
    go_ret
    exact ⟨rfl,hFF.out.trans' f⟩
   ·go_wp2_with fail
    (with_reducible refine (HX.out).mono ?_); rintro e w9 ⟨rfl,f⟩
    go_wp2_with fail
    go_ret
    exact ⟨rfl,hFF.out.trans' f⟩
  ·have hz : 0 ≤ z ∧ n < 11 := by omega
   obtain ⟨j,rfl,hj,hPj⟩ : ∃ j : Nat,z = j ∧ j < L.length ∧ anc L i = done ++ anc L j := by
    rcases hcase with ⟨h,_⟩ | h
    ·omega
    ·exact h
   clear hcase hstop
   have r1 := (HT.out.fr F).blk j hj
   have sC := HI.out.blk_size hj
   have oj := HI.out.hd j hj
   have c65 : (blkOf H L ps j)[65]? = some (.int .u32 ((bkT L j).time : Int)) := by rw [oj.2.2.1]; exact blkC_time oj.1
   have c100 : (blkOf H L ps j)[100]? = some (ptV ps (bkT L j).ahead) := blkC_up oj.1 (HI.out.at32 hj)
   rw [ptV_some]
   obtain ⟨x,hx⟩ : ∃ x,(bkT L j).time = x := ⟨_,rfl⟩
   rw [hx] at c65
   have l1 : (n : Int) < 11 := by omega
   have l2 : n < 11 := hz.2
   obtain ⟨a1,c1,w1,hap,o1,g1,_⟩ := nh_app (m := 1) (n := n + 1) (F.alloc (.cells #[.int .u32 (x : Int)] 23)) (hv.fr0 ((Fr.refl F0 _).alloc _)) (Vs.sing wr x) rfl (by simp) (by rw [List.length_map]; omega) (by rw [List.length_map,hnd]; rfl)
   have r2 := (HT.out.fr g1).blk j hj
   have HU := Lib.hid (show ((bkT L j).ahead < 0 ∧ anc L i = done ++ [j]) ∨ ∃ m : Nat,(bkT L j).ahead = m ∧ m < L.length ∧ anc L i = (done ++ [j]) ++ anc L m from by
    have hu := HI.out.wf.up j hj
    by_cases h0 : (bkT L j).ahead < 0
    ·exact .inl ⟨h0,by rw [hPj,anc_root HI.out.wf hj h0]⟩
    ·obtain ⟨m,hm⟩ := Int.eq_ofNat_of_zero_le (show 0 ≤ (bkT L j).ahead by omega)
     obtain ⟨h3,h4⟩ := anc_step HI.out.wf hj hm
     exact .inr ⟨m,hm,by omega,by rw [hPj,h4,List.append_assoc]; rfl⟩)
   have HO := Lib.hid (And.intro o1 g1)
   have HX := Lib.hid (And.intro hx (And.intro hj (And.intro hPj hnd)))
   clear o1 g1 hx oj hj hPj hnd h1 hz hn11 hv
   generalize blkOf H L ps j = C at *
   generalize ps.getD j 0 = q at *
   obtain ⟨up,hup⟩ : ∃ up,ptV ps (bkT L j).ahead = up := ⟨_,rfl⟩
   rw [hup] at c100
   have HUP := Lib.hid hup
   clear hup
   have s65 : 65 < C.size := by omega
   have d65 := cell_is c65 s65
   have s100 : 100 < C.size := by omega
   have d100 := cell_is c100 s100
   go_wp2_with fail
   go_roundw
   case rel =>
    obtain ⟨hx,hj,hPj,hnd⟩ := HX.out
    exact ⟨done ++ [j],n + 1,(bkT L j).ahead,a1,c1,HUP.out.symm,rfl,by rw [List.length_append,hnd]; rfl,by omega,by rw [List.map_append,List.map_cons,List.map_nil,hx]; exact HO.out.1,HO.out.2,HU.out⟩
   case measure => simp [lenV]; omega
end Go.Proofs.YtedffdlkmpmdlaaGreatDoor
namespace Go.Proofs.YtedffdlkmpmdlaaGreatDoor
set_option maxRecDepth 100000
set_option linter.unusedVariables false
set_option linter.unusedSimpArgs false
open Go.RowKit Go.Shelf
attribute [local go_sem] Oper.semAt_some
abbrev encH (l : List (List UInt8)) (k : Nat) : Array Value := #[.int .i64 (k : Int),.agg (hc (l.getD k []))]
end Go.Proofs.YtedffdlkmpmdlaaGreatDoor
namespace Go.Proofs.YtedffdlkmpmdlaaGreatDoor
set_option maxRecDepth 100000
set_option linter.unusedVariables false
set_option linter.unusedSimpArgs false
open Go.RowKit
end Go.Proofs.YtedffdlkmpmdlaaGreatDoor
