import Derived.Test.YtedffdlkmpmdlaaGreatDoorRows
import Derived.WalkKit
import Derived.WalkSpells
import Derived.WalkLawsBesides
import Derived.Lib.Hide
import Derived.Deep.Draws
import Derived.Test.YtedffdlkmpmdlaaGreatDoorFz1
import Derived.ProofKit
import Derived.Deep.Slices
import Derived.Deep.Fields
import Derived.OpenShut
import Derived.WideKeyArr2
import Derived.Below
import Derived.Laws.Rows
import Derived.Laws.Tables
import Derived.Laws.StructEq
import Derived.ChangeKeysEq
import Derived.RangeFuncNested
import Derived.RangeFuncBound
import Derived.RangeFuncCalls
import Derived.RangeFuncLeaves
import Derived.Shelf.Abstract
import Derived.Shelf.RegionOpen
import Derived.OwnWalkIn
import Derived.TacticsInMore
import Derived.LoopNIn
import Derived.LoopIn
import Derived.RangeFuncBox
import Derived.RangeFuncWrites
import Derived.OrdersIn
import Derived.BigRegionIn
import Derived.Laws.ResultCell
import Derived.Deep.MidRow
import Derived.Deep.RegionHeld
import Derived.Deep.RegionHeld3
set_option maxRecDepth 100000
set_option maxHeartbeats 64000000
namespace Go.Proofs.YtedffdlkmpmdlaaGreatDoor
set_option maxRecDepth 100000
set_option linter.unusedVariables false
set_option linter.unusedSimpArgs false
open Go.RowKit
structure Fr (S : Nat → Prop) (w w' : World) : Prop where
 os : w'.os = w.os
 tape : w'.tape = w.tape
 output : w'.output = w.output
 size : w.heap.size ≤ w'.heap.size
 block : ∀ k,k < w.heap.size → ¬ S k → w'.heap[k]? = w.heap[k]?
def F0 : Nat → Prop := fun _ => False
theorem Fr.refl (S : Nat → Prop) (w : World) : Fr S w w := ⟨rfl,rfl,rfl,Nat.le_refl _,fun _ _ _ => rfl⟩
theorem Fr.mono {S T : Nat → Prop} {w w' : World} (h : Fr S w w') (hs : ∀ k,k < w.heap.size → S k → T k) : Fr T w w' :=
 ⟨h.os,h.tape,h.output,h.size,fun k hk ht => h.block k hk fun s => ht (hs k hk s)⟩
theorem Fr.of0 {T : Nat → Prop} {w w' : World} (h : Fr F0 w w') : Fr T w w' := h.mono fun _ _ f => f.elim
theorem Fr.trans {S T : Nat → Prop} {a b c : World} (h : Fr S a b) (k : Fr T b c) (hst : ∀ i,i < a.heap.size → T i → S i) : Fr S a c :=
 ⟨k.os.trans h.os,k.tape.trans h.tape,k.output.trans h.output,Nat.le_trans h.size k.size,
  fun i hi hs => (k.block i (Nat.lt_of_lt_of_le hi h.size) fun t => hs (hst i hi t)).trans (h.block i hi hs)⟩
theorem Fr.trans' {S : Nat → Prop} {a b c : World} (h : Fr S a b) (k : Fr S b c) : Fr S a c := h.trans k fun _ _ s => s
theorem Fr.alloc {S : Nat → Prop} {a w : World} (h : Fr S a w) (o : Obj) : Fr S a (w.alloc o) :=
 h.trans (T := F0) ⟨rfl,rfl,rfl,by simp,fun k hk _ => heap_alloc_old w o hk⟩ fun _ _ f => f.elim
theorem Fr.drew {S : Nat → Prop} {a w : World} (h : Fr S a w) : Fr S a w.drew := ⟨h.os,h.tape,h.output,h.size,h.block⟩
theorem Fr.setCell {S : Nat → Prop} {a w : World} (h : Fr S a w) {p : Addr} (hp : p.block < a.heap.size → S p.block) (u : Value) : Fr S a (w.setCell p u) :=
 h.trans (T := fun k => k = p.block) ⟨rfl,rfl,rfl,by simp [World.setCell],fun k _ hk => Below.heap_setCell _ _ _ _ hk⟩ fun i hi e => by subst e; exact hp hi
theorem Fr.grown {S : Nat → Prop} {a w w' : World} {row : Option Nat} (h : Fr S a w) (hg : w.grownBy w' row) (hr : ∀ k,row = some k → k < a.heap.size → S k) : Fr S a w' :=
 h.trans (T := fun k => row = some k) ⟨hg.os,hg.tape,hg.output,hg.size,fun k hk hn => hg.block k hk fun e => hn e.symm⟩ fun i hi e => hr i e hi
theorem Fr.lt {S : Nat → Prop} {w w' : World} (h : Fr S w w') {k : Nat} (hk : k < w.heap.size) : k < w'.heap.size := Nat.lt_of_lt_of_le hk h.size
theorem Fr.cell {S : Nat → Prop} {w w' : World} (h : Fr S w w') {p : Addr} {v : Value} (hp : ¬ S p.block) (hc : w.cell? p = some v) : w'.cell? p = some v :=
 (World.cell?_of_block (h.block p.block (World.block_lt_of_cell? w p hc) hp)).trans hc
theorem Fr.keeps {S : Nat → Prop} {w w' : World} (h : Fr S w w') {k : Nat} {o : Obj} (hp : ¬ S k) (hc : w.heap[k]? = some o) : w'.heap[k]? = some o :=
 (h.block k (Array.getElem?_eq_some_iff.1 hc).1 hp).trans hc
theorem Fr.below {S : Nat → Prop} {w w' : World} {B : Nat} (h : Fr S w w') (hB : B ≤ w.heap.size) (hs : ∀ k,k < B → ¬ S k) : Below B w w' :=
 ⟨h.os,h.tape,h.output,h.size,fun k hk => h.block k (by omega) (hs k hk)⟩
theorem Fr.of_below {w w' : World} (h : Below w.heap.size w w') : Fr F0 w w' := ⟨h.os,h.tape,h.output,h.size,fun k hk _ => h.block k hk⟩
theorem Fr.of_below' {w w' : World} {n : Nat} (h : Below n w w') : Fr (fun k => n ≤ k) w w' := ⟨h.os,h.tape,h.output,h.size,fun k _ hn => h.block k (by omega)⟩
structure Sl (w : World) (size : Nat) (a : Option Addr) (c : Nat) (n : Nat) (xs : List Value) : Prop where
 len : xs.length = n * size
 room : n ≤ c
 most : c ≤ maxLen
 nil : a = none → c = 0
 cell : ∀ j u,xs[j]? = some u → ∃ b off,a = some ⟨b,off,none⟩ ∧ w.cell? ⟨b,off + j,none⟩ = some u
def ablk : Option Addr → Option Nat | some a => some a.block | none => none
theorem Sl.kept {w w' : World} {size : Nat} {a : Option Addr} {c n : Nat} {xs : List Value} (h : Sl w size a c n xs)
  (hb : ∀ b,ablk a = some b → b < w.heap.size → w'.heap[b]? = w.heap[b]?) : Sl w' size a c n xs := by
 refine ⟨h.len,h.room,h.most,h.nil,fun j u hj => ?_⟩
 obtain ⟨b,off,rfl,hc⟩ := h.cell j u hj
 have hl : b < w.heap.size := World.block_lt_of_cell? w ⟨b,off + j,none⟩ hc
 exact ⟨b,off,rfl,(World.cell?_of_block (a := ⟨b,off + j,none⟩) (hb b rfl hl)).trans hc⟩
theorem Sl.fr {S : Nat → Prop} {w w' : World} {size : Nat} {a : Option Addr} {c n : Nat} {xs : List Value} (h : Sl w size a c n xs) (hf : Fr S w w')
  (hb : ∀ b,ablk a = some b → ¬ S b) : Sl w' size a c n xs := h.kept fun b e hl => hf.block b hl (hb b e)
theorem Sl.frn {S : Nat → Prop} {w w' : World} {size : Nat} {a : Option Addr} {c n : Nat} {xs : List Value} (h : Sl w size a c n xs) (hf : Fr S w w')
  (hb : xs ≠ [] → ∀ b,ablk a = some b → ¬ S b) : Sl w' size a c n xs := by
 refine ⟨h.len,h.room,h.most,h.nil,fun j u hj => ?_⟩
 have hne : xs ≠ [] := by rintro rfl; simp at hj
 exact (h.fr hf (hb hne)).cell j u hj
theorem ablk_own (a : Option Addr) (n c : Nat) : (Value.slice a n c).ownBlock = ablk a := by cases a <;> rfl
theorem Sl.of_own {w : World} {base e size : Nat} {a : Option Addr} {c n m : Nat} {xs : List Value} (h : w.ownsRow base e size (.slice a n c) m xs) : m = n ∧ Sl w size a c n xs := by
 obtain ⟨hl,h⟩ := h
 rcases h with ⟨h,rfl⟩ | ⟨g,cap,cur,h,_,hg,hn,hm,hs,ht⟩
 ·simp only [Value.slice.injEq] at h
  obtain ⟨rfl,rfl,rfl⟩ := h
  exact ⟨rfl,by simpa using hl,Nat.le_refl _,Nat.zero_le _,fun _ => rfl,fun j u hj => by
   have : xs = [] := List.eq_nil_of_length_eq_zero (by simpa using hl)
   subst this; simp at hj⟩
 ·simp only [Value.slice.injEq] at h
  obtain ⟨rfl,rfl,rfl⟩ := h
  refine ⟨rfl,hl,hn,hm,fun h => by simp at h,fun j u hj => ⟨g,0,rfl,?_⟩⟩
  rw [Nat.zero_add,cell_of_row w g j cur e (0,0) hg]
  rw [← ht,List.getElem?_take] at hj
  split at hj
  ·simpa using hj
  ·cases hj
theorem own_slice {w : World} {base e size : Nat} {v : Value} {n : Nat} {xs : List Value} (h : w.ownsRow base e size v n xs) : ∃ a c,v = .slice a n c := by
 rcases h.2 with ⟨rfl,rfl⟩ | ⟨g,cap,cur,rfl,_⟩
 ·exact ⟨none,0,rfl⟩
 ·exact ⟨_,_,rfl⟩
theorem Sl.addr {w : World} {size : Nat} {a : Addr} {c n : Nat} {xs : List Value} (h : Sl w size (some a) c n xs) : ∀ j u,xs[j]? = some u → w.cell? (a.add j) = some u := by
 intro j u hj
 obtain ⟨b,off,e,hc⟩ := h.cell j u hj
 simp only [Option.some.injEq] at e
 subst e
 rw [Addr.add_lit]
 exact hc
theorem run_app {P : Program} {w : World} (t ty e : TypeId) (i : TypeInfo) (z : Value) (size bytes : Nat) (ht : P.underlying t = some (.slice e)) (hi : P.info? e = some i) (hz : i.zero = some z)
  (hsize : i.size = size) (hby : i.bytes = bytes) (hzs : z.cells.size = size) (hsz : 0 < size)
  (v : Value) (n : Nat) (xs : List Value) (hown : w.ownsRow 0 e size v n xs) (a : Option Addr) (c m : Nat) (news : List Value) (hs : Sl w size a c m news) (h1 : ∀ u ∈ news,u.oneCell' = true)
  (h63 : n + m ≤ maxLen) (hbytes : (n + m) * bytes ≤ 140737488355328) :
  ∃ v' w',(Builtin.append_ #[t,t] ty #[v,.slice a m c]).run P w = .ok v' w' ∧ w'.ownsRow 0 e size v' (n + m) (xs ++ news) ∧ w.grownBy w' v.ownBlock ∧
   ∀ k,v'.ownBlock = some k → v.ownBlock = some k ∨ w.heap.size ≤ k := by
 cases a with
 |none =>
  have hc := hs.nil rfl
  have hm : m = 0 := by have := hs.room; omega
  subst hc hm
  have hn : news = [] := List.eq_nil_of_length_eq_zero (by simpa using hs.len)
  subst hn
  refine ⟨v,w,run_append_owned_none w 0 t ty e i size ht hi v n xs hown,by simpa using hown,⟨rfl,rfl,rfl,Nat.le_refl _,fun _ _ _ => rfl⟩,fun k hk => .inl hk⟩
 |some a =>
  obtain ⟨v',w',h,h',h'',_⟩ := run_append_own (P := P) w 0 t ty e i z size bytes ht hi hz hsize hby hzs hsz v n xs hown a m c news hs.len hs.addr h1 h63 hbytes (Nat.zero_le _)
  refine ⟨v',w',h,h',h'',fun k hk => ?_⟩
  subst hsize
  subst hby
  have hsmall : n + m ≤ 9223372036854775807 := by simp only [maxLen] at h63; omega
  by_cases hm : m = 0
  ·subst hm
   have hn : news = [] := List.eq_nil_of_length_eq_zero (by simpa using hs.len)
   subst hn
   rcases hown.2 with ⟨rfl,rfl⟩ | ⟨g,cap,cur,rfl,hbg,hg,hnc,hcm,hcs,htake⟩
   ·have hr : (Builtin.append_ #[t,t] ty #[.slice none 0 0,.slice (some a) 0 c]).run P w = .ok (.slice none 0 0) w := by
     simp [Builtin.append_,run_underlying ht,sizeOf,typeInfo,hi,Builtin.lenOf,Builtin.firstCells,loadCells,loadCellsFrom]
    rw [hr] at h
    cases h
    simp [Value.ownBlock] at hk
   ·have hr := run_append_room (P := P) w t ty e i ht hi g n cap cur hg a 0 c [] hs.len hs.addr h1 (by omega) (by rw [hcs]; simp; exact Nat.mul_le_mul_right _ hnc)
    rw [hr] at h
    cases h
    exact .inl hk
  ·rcases hown.2 with ⟨rfl,rfl⟩ | ⟨g,cap,cur,rfl,hbg,hg,hnc,hcm,hcs,htake⟩
   ·have hr := run_append_nil (P := P) w t ty e i z ht hi hz a m c news hs.len hs.addr (by omega) (by omega) (by simp at hbytes; omega)
    rw [hr] at h
    cases h
    simp [Value.ownBlock] at hk
    exact .inr (by omega)
   ·by_cases hroom : n + m ≤ cap
    ·have hr := run_append_room (P := P) w t ty e i ht hi g n cap cur hg a m c news hs.len hs.addr h1 hroom (by rw [hs.len,hcs,← Nat.add_mul]; exact Nat.mul_le_mul_right _ hroom)
     rw [hr] at h
     cases h
     exact .inl hk
    ·have hr := run_append_grow (P := P) w t ty e i z ht hi hz ⟨g,0,none⟩ n cap xs hown.1 (hown.cells (g := g) rfl) a m c news hs.len hs.addr (by omega) (by omega) (growslice_fits (by omega) hbytes)
     rw [hr] at h
     cases h
     simp [Value.ownBlock] at hk
     exact .inr (by omega)
theorem wpList_app {P : Program} {w : World} {ops : Array Oper} {rest : List Oper} {o : Oper} {a : Act} {Q : Exit → Act → World → Prop} (hgd : o.guard = none) (s x : Operand) (t : TypeId)
  (ho : o.op = .call { callee := .builtin .append,args := #[s,x],argTypes := #[t,t] })
  (e : TypeId) (i : TypeInfo) (z : Value) (size bytes : Nat) (ht : P.underlying t = some (.slice e)) (hi : P.info? e = some i) (hz : i.zero = some z)
  (hsize : i.size = size) (hby : i.bytes = bytes) (hzs : z.cells.size = size) (hsz : 0 < size)
  (v : Value) (n : Nat) (xs : List Value) (hs : a.eval s = v) (hown : w.ownsRow 0 e size v n xs)
  (ad : Option Addr) (c m : Nat) (news : List Value) (hx : a.eval x = .slice ad m c) (hsl : Sl w size ad c m news) (h1 : ∀ u ∈ news,u.oneCell' = true)
  (h63 : n + m ≤ maxLen) (hbytes : (n + m) * bytes ≤ 140737488355328)
  (h : ∀ a' c' w',w'.ownsRow 0 e size (.slice a' (n + m) c') (n + m) (xs ++ news) → w.grownBy w' v.ownBlock → (∀ k,ablk a' = some k → v.ownBlock = some k ∨ w.heap.size ≤ k) → wpList P ops Q rest (a.put o.dst (.slice a' (n + m) c')) w') : wpList P ops Q (o :: rest) a w := by
 refine wpList_plain hgd fun K hK => ?_
 obtain ⟨v',w',hr,h2,h3,h4⟩ := run_app (P := P) t o.type e i z size bytes ht hi hz hsize hby hzs hsz v n xs hown ad c m news hsl h1 h63 hbytes
 obtain ⟨a',c',rfl⟩ := own_slice h2
 unfold Oper.wp execOp
 simp only [ho,resolve,invoke,builtin,Sem.run_bind,Sem.run_pure,Result.andThen_ok,List.map_toArray,List.map_cons,List.map_nil,hs,hx,hr]
 exact hK _ _ (h a' c' w' h2 h3 (by simpa [ablk_own] using h4))
@[go_sem] theorem run_eql_slice_nil_g {P : Program} (w : World) (t : TypeId) (a : Option Addr) (n c : Nat) (h : P.underlying t = some (.slice (P.elem t))) :
  (binOp .eql t (.slice a n c) (.slice none 0 0)).run P w = .ok (.bool a.isNone) w := Lib.run_eql_slice_nil w t _ a n c 0 0 h
def B8 (x : UInt8) : Value := .int .u8 x.toNat
def Bs (w : World) (a : Option Addr) (c : Nat) (bs : List UInt8) : Prop := Sl w 1 a c bs.length (bs.map B8)
theorem Bs.at {w : World} {a : Option Addr} {c : Nat} {bs : List UInt8} (h : Bs w a c bs) (j : Nat) (hj : j < bs.length) : ∃ b off,a = some ⟨b,off,none⟩ ∧ w.cell? ⟨b,off + j,none⟩ = some (.int .u8 bs[j].toNat) :=
 h.cell j (B8 bs[j]) (by simp [List.getElem?_map,List.getElem?_eq_getElem hj])
theorem Bs.cells {w : World} {a : Option Addr} {c : Nat} {bs : List UInt8} (h : Bs w a c bs) (hne : bs ≠ []) : ∃ b off,a = some ⟨b,off,none⟩ ∧ ∀ j (hj : j < bs.length),w.cell? ⟨b,off + j,none⟩ = some (.int .u8 bs[j].toNat) := by
 obtain ⟨b,off,e,_⟩ := h.at 0 (List.length_pos_iff.2 hne)
 refine ⟨b,off,e,fun j hj => ?_⟩
 obtain ⟨b',off',e',hc⟩ := h.at j hj
 rw [e] at e'
 simp only [Option.some.injEq,Addr.mk.injEq,and_true] at e'
 obtain ⟨rfl,rfl⟩ := e'
 exact hc
theorem Bs.of_own {w : World} {base e : Nat} {a : Option Addr} {c n m : Nat} {bs : List UInt8} (h : w.ownsRow base e 1 (.slice a n c) m (bs.map B8)) : m = n ∧ n = bs.length ∧ Bs w a c bs := by
 obtain ⟨rfl,hs⟩ := Sl.of_own h
 have hl := hs.len
 simp at hl
 subst hl
 exact ⟨rfl,rfl,hs⟩
theorem Bs.one {bs : List UInt8} : ∀ u ∈ bs.map B8,u.oneCell' = true := by
 intro u hu
 simp only [List.mem_map] at hu
 obtain ⟨x,_,rfl⟩ := hu
 rfl
def strOf (bs : List UInt8) : ByteArray := ⟨bs.toArray⟩
theorem strOf_size (bs : List UInt8) : (strOf bs).size = bs.length := by simp [strOf,ByteArray.size]
theorem strOf_append (a b : List UInt8) : strOf a ++ strOf b = strOf (a ++ b) := by
 apply ByteArray.ext
 simp [strOf]
end Go.Proofs.YtedffdlkmpmdlaaGreatDoor
namespace Go.Proofs.YtedffdlkmpmdlaaGreatDoor
set_option maxRecDepth 100000
set_option linter.unusedVariables false
set_option linter.unusedSimpArgs false
open Go.RowKit
theorem Tryz.infoU8 : (Tryz.prog.info? 5).map (fun i => (i.zero,i.size,i.bytes)) = some (some (.int .u8 0),1,1) := by kernel_rfl
def OwnB (w : World) (v : Value) (bs : List UInt8) : Prop := w.ownsRow 0 5 1 v bs.length (bs.map B8)
theorem OwnB.nil (w : World) : OwnB w (.slice none 0 0) [] := World.ownsRow_nil _ _ _ _
theorem OwnB.bs {w : World} {a : Option Addr} {n c : Nat} {bs : List UInt8} (h : OwnB w (.slice a n c) bs) : n = bs.length ∧ Bs w a c bs := (Bs.of_own h).2
theorem OwnB.slice {w : World} {v : Value} {bs : List UInt8} (h : OwnB w v bs) : ∃ a c,v = .slice a bs.length c := own_slice h
theorem OwnB.lt {w : World} {v : Value} {bs : List UInt8} (h : OwnB w v bs) : ∀ k,v.ownBlock = some k → k < w.heap.size := fun k hk => (World.ownsRow.lt h k hk).2
theorem OwnB.fr {S : Nat → Prop} {w w' : World} {v : Value} {bs : List UInt8} (h : OwnB w v bs) (hf : Fr S w w') (hs : ∀ k,v.ownBlock = some k → ¬ S k) : OwnB w' v bs := by
 refine ⟨h.1,?_⟩
 rcases h.2 with hn | ⟨g,cap,cur,rfl,hb,hg,r⟩
 ·exact .inl hn
 ·exact .inr ⟨g,cap,cur,rfl,hb,hf.keeps (hs g rfl) hg,r⟩
theorem wpList_appB {w : World} {ops : Array Oper} {rest : List Oper} {o : Oper} {a : Act} {Q : Exit → Act → World → Prop} (hgd : o.guard = none) (s x : Operand)
  (ho : o.op = .call { callee := .builtin .append,args := #[s,x],argTypes := #[52,52] })
  (v : Value) (b0 : List UInt8) (hs : a.eval s = v) (hown : OwnB w v b0) (ad : Option Addr) (m c : Nat) (bs : List UInt8) (hx : a.eval x = .slice ad m c) (hsl : Bs w ad c bs) (hm : m = bs.length)
  (hb : b0.length + bs.length ≤ 140737488355328)
  (h : ∀ a' c' w',OwnB w' (.slice a' (b0.length + bs.length) c') (b0 ++ bs) → w.grownBy w' v.ownBlock → (∀ k,ablk a' = some k → v.ownBlock = some k ∨ w.heap.size ≤ k) →
   wpList Tryz.prog ops Q rest (a.put o.dst (.slice a' (b0.length + bs.length) c')) w') : wpList Tryz.prog ops Q (o :: rest) a w := by
 subst hm
 obtain ⟨i0,hi,hz0,hz1,hz2⟩ := info_parts Tryz.infoU8
 refine wpList_app hgd s x 52 ho 5 i0 (.int .u8 0) 1 1 Tryz.underlying52 hi hz0 hz1 hz2 rfl (by decide) v _ _ hs hown ad c _ _ hx hsl Bs.one (by unfold maxLen; omega) (by omega) ?_
 intro a' c' w' h1 h2 h3
 exact h a' c' w' (by simpa [OwnB] using h1) h2 h3
def NewBytes (bs : List UInt8) (w : World) (e : Ending) (w' : World) : Prop :=
 ∃ a c,e = .returned (.slice a bs.length c) ∧ Bs w' a c bs ∧ Fr F0 w w' ∧ ∀ b,ablk a = some b → w.heap.size ≤ b ∧ b < w'.heap.size
end Go.Proofs.YtedffdlkmpmdlaaGreatDoor
namespace Go.Proofs.YtedffdlkmpmdlaaGreatDoor
set_option maxRecDepth 100000
set_option linter.unusedVariables false
set_option linter.unusedSimpArgs false
open Go.RowKit Go.ChangeShapes Go.WideShapes Go.Deep
section
variable {H : Type} {enc : TypeId × Value → H} {w : World} {base : Nat} {spare : Nat → Bool} {held : Bool}
end
end Go.Proofs.YtedffdlkmpmdlaaGreatDoor
namespace Go.Proofs.YtedffdlkmpmdlaaGreatDoor
set_option maxRecDepth 100000
set_option linter.unusedVariables false
set_option linter.unusedSimpArgs false
open Go.RowKit Go.ChangeShapes Go.WideShapes
section
variable {H : Type} {enc : TypeId × Value → H} {W : World} {base : Nat} {sp : Nat → Bool} {held : Bool}
end
end Go.Proofs.YtedffdlkmpmdlaaGreatDoor
namespace Go.Proofs.YtedffdlkmpmdlaaGreatDoor
set_option maxRecDepth 100000
set_option linter.unusedVariables false
set_option linter.unusedSimpArgs false
open Go.RowKit Go.ChangeShapes Go.WideShapes
section
variable {H : Type} {enc : TypeId × Value → H} {W : World} {base : Nat} {sp : Nat → Bool} {held : Bool}
theorem open_u8 {r : Reach} {b0 : Nat} {v : Value} {d : DataW H} {ps : List MemPlace} (hd : DataW.Trod enc Tryz.prog W base sp held 5 v d ps) (hv : Value.okWide Tryz.prog W r b0 5 v) :
  ∃ x : Nat,x < 256 ∧ v = .int .u8 (x : Int) := by
 obtain ⟨n,rfl⟩ := okWide_int Tryz.underlying5 hv
 obtain ⟨fuel,hf⟩ := hd
 obtain ⟨z,e,_,wf⟩ := DataW.trod_int Tryz.underlying5 (by simpa [Value.cells] using hf)
 have hb := bounds_u8 wf
 simp at e
 subst e
 obtain ⟨x,rfl⟩ := Int.eq_ofNat_of_zero_le hb.1
 exact ⟨x,by omega,rfl⟩
end
end Go.Proofs.YtedffdlkmpmdlaaGreatDoor
namespace Go.Proofs.YtedffdlkmpmdlaaGreatDoor
set_option maxRecDepth 100000
set_option linter.unusedVariables false
set_option linter.unusedSimpArgs false
open Go.RowKit
def loadRowAt (t : TypeId) (p : Value) : Sem Value := Instr.loadAt t p
def storeRowAt (t : TypeId) (p v : Value) : Sem Unit := Instr.storeAt t p v
def rowOut (P : Program) (t : TypeId) (p : Value) (w : World) (n : Nat) : Option Obj → Result Value
 |some (.cells cs _ _) => if cs.size = n then .ok (.agg cs) w else (Instr.loadAt t p).run P w
 |_ => (Instr.loadAt t p).run P w
theorem rowOut_cells {P : Program} {t : TypeId} {p : Value} {w : World} {n : Nat} {cs : Array Value} {t' : TypeId} {fr : Nat × Nat} (h : cs.size = n) :
  rowOut P t p w n (some (.cells cs t' fr)) = .ok (.agg cs) w := if_pos h
theorem run_loadRowAt {P : Program} (w : World) (t : TypeId) (g n : Nat) (d : TypeDesc) (hu : P.underlying t = some d) (hd : (match d with | .struct _ | .array _ _ => true | _ => false) = true) (hi : (P.info? t).map (·.size) = some n) :
  (loadRowAt t (.pointer (some ⟨g,0,none⟩))).run P w = rowOut P t (.pointer (some ⟨g,0,none⟩)) w n w.heap[g]? := by
 cases hg : w.heap[g]? with
 |none => rfl
 |some o =>
  cases o with
  |cells cs t' fr =>
   by_cases h : cs.size = n
   ·rw [rowOut_cells h]
    show (Instr.loadAt t (.pointer (some ⟨g,0,none⟩))).run P w = _
    simp only [Instr.loadAt,Instr.sureAddr,Sem.run_bind,Sem.run_pure,Result.andThen_ok]
    exact run_loadVar_row w g t' t cs fr d hg hu hd (by rw [hi,h])
   ·simp [rowOut,h,loadRowAt]
  |_ => rfl
def rowOne (cells : Array Value) : Prop := cells.all (·.oneCell') = true
def rowIn (P : Program) (t : TypeId) (p : Value) (cells : Array Value) (g : Nat) (w : World) (n : Nat) : Option Obj → Result Unit
 |some (.cells old _ fr) => if fr = (0,0) ∧ old.size = n ∧ cells.size = n ∧ cells.all (·.oneCell') = true then .ok () (w.setRow g cells) else (Instr.storeAt t p (.agg cells)).run P w
 |_ => (Instr.storeAt t p (.agg cells)).run P w
theorem rowIn_cells {P : Program} {t : TypeId} {p : Value} {cells : Array Value} {g : Nat} {w : World} {n : Nat} {old : Array Value} {t' : TypeId} (h : old.size = n) (h1 : cells.size = n) (h2 : rowOne cells) :
  rowIn P t p cells g w n (some (.cells old t' (0,0))) = .ok () (w.setRow g cells) := if_pos ⟨rfl,h,h1,h2⟩
theorem run_storeRowAt {P : Program} (w : World) (t : TypeId) (g n : Nat) (cells : Array Value) (hi : (P.info? t).map (·.size) = some n) :
  (storeRowAt t (.pointer (some ⟨g,0,none⟩)) (.agg cells)).run P w = rowIn P t (.pointer (some ⟨g,0,none⟩)) cells g w n w.heap[g]? := by
 cases hg : w.heap[g]? with
 |none => rfl
 |some o =>
  cases o with
  |cells old t' fr =>
   by_cases h : fr = (0,0) ∧ old.size = n ∧ cells.size = n ∧ cells.all (·.oneCell') = true
   ·obtain ⟨rfl,h1,h2,h3⟩ := h
    rw [rowIn_cells h1 h2 h3]
    show (Instr.storeAt t (.pointer (some ⟨g,0,none⟩)) (.agg cells)).run P w = _
    simp only [Instr.storeAt,Instr.sureAddr,Sem.run_bind,Sem.run_pure,Result.andThen_ok]
    exact run_storeVar_row w g t' t old cells hg (by rw [hi,h2]) (by rw [h1,h2]) h3
   ·simp only [rowIn,h,if_false]
    rfl
  |_ => rfl
def Obj.withRow (cs : Array Value) : Obj → Obj
 |.cells _ t fr => .cells cs t fr
 |o => o
def Obj.withCell (i : Nat) (v : Value) : Obj → Obj
 |.cells cs t fr => .cells (cs.setIfInBounds i v) t fr
 |o => o
theorem heap_setRow_at (w : World) (g : Nat) (cs : Array Value) : (w.setRow g cs).heap[g]? = (w.heap[g]?).map (Obj.withRow cs) := by
 simp only [World.setRow,Array.getElem?_modify,if_true]
 try congr 1
 try (funext o; cases o <;> rfl)
theorem heap_setRow_ne (w : World) (g k : Nat) (cs : Array Value) (h : k ≠ g) : (w.setRow g cs).heap[k]? = w.heap[k]? := setRow_other w g k cs h
theorem heap_setCell_at (w : World) (g i : Nat) (v : Value) : (w.setCell ⟨g,i,none⟩ v).heap[g]? = (w.heap[g]?).map (Obj.withCell i v) := by
 simp only [World.setCell,Array.getElem?_modify,if_true]
 try congr 1
 try (funext o; cases o <;> rfl)
theorem heap_setCell_ne' (w : World) (g i k : Nat) (v : Value) (h : k ≠ g) : (w.setCell ⟨g,i,none⟩ v).heap[k]? = w.heap[k]? := Below.heap_setCell _ _ _ _ h
theorem withRow_cells (cs c : Array Value) (t : TypeId) (fr : Nat × Nat) : Option.map (Obj.withRow cs) (some (.cells c t fr)) = some (.cells cs t fr) := rfl
theorem withCell_cells (i : Nat) (v : Value) (c : Array Value) (t : TypeId) (fr : Nat × Nat) : Option.map (Obj.withCell i v) (some (.cells c t fr)) = some (.cells (c.setIfInBounds i v) t fr) := rfl
def Obj.cellAt (i : Nat) : Option Obj → Option Value
 |some (.cells cs _ _) => cs[i]?
 |_ => none
theorem cellAt_cells (i : Nat) (cs : Array Value) (t : TypeId) (fr : Nat × Nat) : Obj.cellAt i (some (.cells cs t fr)) = cs[i]? := rfl
theorem cell_at (w : World) (g i : Nat) : w.cell? ⟨g,i,none⟩ = Obj.cellAt i w.heap[g]? := by
 simp only [World.cell?]
 cases w.heap[g]? with
 |none => rfl
 |some o => cases o <;> rfl
def Obj.frozenAt (i : Nat) : Option Obj → Bool
 |some (.cells _ _ (lo,hi)) => lo ≤ i && i < hi
 |_ => false
theorem frozenAt_cells (i : Nat) (cs : Array Value) (t : TypeId) : Obj.frozenAt i (some (.cells cs t (0,0))) = false := by simp [Obj.frozenAt]
theorem frozen_at (w : World) (g i : Nat) : w.frozen? ⟨g,i,none⟩ = Obj.frozenAt i w.heap[g]? := by
 simp only [World.frozen?]
 cases w.heap[g]? with
 |none => rfl
 |some o => cases o <;> rfl
theorem heap_drew' (w : World) : w.drew.heap = w.heap := rfl
theorem Fr.setRow {S : Nat → Prop} {a w : World} (h : Fr S a w) {g : Nat} (hp : g < a.heap.size → S g) (cs : Array Value) : Fr S a (w.setRow g cs) :=
 h.trans (T := fun k => k = g) ⟨rfl,rfl,rfl,by simp,fun k _ hk => setRow_other w g k cs hk⟩ fun i hi e => by subst e; exact hp hi
theorem allocs_old (L : List Obj) : ∀ (w : World) (k : Nat),k < w.heap.size → (L.foldl World.alloc w).heap[k]? = w.heap[k]? := by
 induction L with
 |nil => intro w k _; rfl
 |cons A L ih =>
  intro w k hk
  rw [List.foldl_cons,ih _ _ (by simp; omega)]
  exact heap_alloc_old _ _ hk
theorem heap_allocs (L : List Obj) : ∀ (w : World) (j : Nat),j < L.length → (L.foldl World.alloc w).heap[w.heap.size + j]? = L[j]? := by
 induction L with
 |nil => intro w j h; simp at h
 |cons A L ih =>
  intro w j h
  rw [List.foldl_cons]
  cases j with
  |zero =>
   rw [Nat.add_zero,allocs_old L _ _ (by simp)]
   exact heap_alloc_new w A
  |succ j =>
   have := ih (w.alloc A) j (by simpa using h)
   rw [World.size_alloc] at this
   rw [show w.heap.size + (j + 1) = w.heap.size + 1 + j by omega,this]
   rfl
theorem Fr.allocs {S : Nat → Prop} {a : World} (L : List Obj) : ∀ {w : World},Fr S a w → Fr S a (L.foldl World.alloc w) := by
 induction L with
 |nil => intro w h; exact h
 |cons A L ih => intro w h; exact ih (h.alloc A)
theorem size_allocs (L : List Obj) : ∀ (w : World),(L.foldl World.alloc w).heap.size = w.heap.size + L.length := by
 induction L with
 |nil => intro w; rfl
 |cons A L ih => intro w; rw [List.foldl_cons,ih,World.size_alloc,List.length_cons]; omega
theorem keep_alloc {w : World} {o : Obj} {k : Nat} {x : Obj} (h : w.heap[k]? = some x) : (w.alloc o).heap[k]? = some x := by
 rw [heap_alloc_old _ _ (Array.getElem?_eq_some_iff.1 h).1]; exact h
theorem keep_fr {w w' : World} {k : Nat} {x : Obj} (f : Fr F0 w w') (h : w.heap[k]? = some x) : w'.heap[k]? = some x := f.keeps (fun f => f) h
theorem keep_row {w : World} {g : Nat} {c : Array Value} {k : Nat} {x : Obj} (hk : k ≠ g) (h : w.heap[k]? = some x) : (w.setRow g c).heap[k]? = some x := by rw [heap_setRow_ne _ _ _ _ hk]; exact h
theorem new_row {w : World} {g : Nat} {c : Array Value} {z : Array Value} {t : TypeId} {f : Nat × Nat} (h : w.heap[g]? = some (.cells z t f)) : (w.setRow g c).heap[g]? = some (.cells c t f) := by
 rw [heap_setRow_at,h]; rfl
theorem rowIn_of {P : Program} {t : TypeId} {p : Value} {cells : Array Value} {g : Nat} {w : World} {n : Nat} {old : Array Value} {t' : TypeId} {o : Option Obj} (ho : o = some (.cells old t' (0,0))) (h : old.size = n) (h1 : cells.size = n) (h2 : rowOne cells) :
  rowIn P t p cells g w n o = .ok () (w.setRow g cells) := by subst ho; exact rowIn_cells h h1 h2
structure NewRow (w W : World) (g : Nat) (c : Array Value) (t : TypeId) : Prop where
 new : W.heap[g]? = some (.cells c t (0,0))
 old : ∀ {k : Nat} {o : Obj},w.heap[k]? = some o → W.heap[k]? = some o
 fr : Fr F0 w W
 ne : ∀ {k : Nat} {o : Obj},w.heap[k]? = some o → k ≠ g
theorem put_new (w : World) (z c : Array Value) (t : TypeId) : NewRow w ((w.alloc (.cells z t)).setRow w.heap.size c) w.heap.size c t :=
 ⟨new_row (heap_alloc_new _ _),fun h => keep_row (by have := (Array.getElem?_eq_some_iff.1 h).1; omega) (keep_alloc h),((Fr.refl F0 w).alloc _).setRow (fun h => by omega) _,fun h => by have := (Array.getElem?_eq_some_iff.1 h).1; omega⟩
def dgt (b x i : Nat) : Nat := x / 2 ^ (b * i) % 2 ^ b
theorem dgt_lt (b x i : Nat) : dgt b x i < 2 ^ b := Nat.mod_lt _ (Nat.two_pow_pos b)
def rowN (k : IntKind) (b n x : Nat) : Array Value := ((List.range n).map fun i => Value.int k (dgt b x i : Nat)).toArray
theorem rowN_size (k : IntKind) (b n x : Nat) : (rowN k b n x).size = n := by simp [rowN]
theorem rowN_one (k : IntKind) (b n x : Nat) : (rowN k b n x).all (·.oneCell') = true := by
 rw [Array.all_eq_true_iff_forall_mem]
 intro v hv
 simp only [rowN,List.mem_toArray,List.mem_map] at hv
 obtain ⟨i,_,rfl⟩ := hv
 rfl
theorem rowN_get (k : IntKind) (b n x i : Nat) (h : i < n) : (rowN k b n x)[i]? = some (.int k (dgt b x i : Nat)) := by
 simp [rowN,h]
theorem rowN_rowOne (k : IntKind) (b n x : Nat) : rowOne (rowN k b n x) := rowN_one k b n x
theorem rowN_getElem (k : IntKind) (b n x i : Nat) (h : i < (rowN k b n x).size) : (rowN k b n x)[i] = .int k (dgt b x i : Nat) := by
 simp [rowN]
theorem run_index_row {P : Program} (w : World) (t e : TypeId) (n : Nat) (cs : Array Value) (k : IntKind) (i : Nat) (d : TypeDesc) (hu : P.underlying t = some (.array n e)) (he : P.underlying e = some d) (hd : (match d with | .struct _ | .array _ _ => true | _ => false) = false)
  (hi : (P.info? e).map (·.size) = some 1) (v : Value) (h1 : i < n) (hv : cs[i]? = some v) :
  (Instr.index t (.agg cs) (.int k (i : Int))).run P w = .ok v w := by
 cases hq : P.info? e with
 |none => simp [hq] at hi
 |some io =>
  have hs : io.size = 1 := by simpa [hq] using hi
  have hagg : (isAgg e).run P w = .ok false w := by
   unfold isAgg
   rw [Sem.run_bind,run_underlying he w]
   cases d <;> simp_all
  have h0 : (0 : Int) ≤ i ∧ (i : Int) < n := ⟨by omega,by omega⟩
  simp [Instr.index,asIntOf,Sem.run_bind,run_underlying hu w,h0,sizeOf,typeInfo,hq,hs,part,hagg,hv]
  try omega
def putw (b z i v : Nat) : Nat := z % 2 ^ (b * i) + 2 ^ (b * i) * (v + 2 ^ b * (z / 2 ^ (b * (i + 1))))
theorem dgt_below (b x y i j : Nat) (h : j < i) (e : x % 2 ^ (b * i) = y % 2 ^ (b * i)) : dgt b x j = dgt b y j := by
 have key : ∀ z,dgt b z j = dgt b (z % 2 ^ (b * i)) j := by
  intro z
  obtain ⟨d,rfl⟩ : ∃ d,i = j + 1 + d := ⟨i - (j + 1),by omega⟩
  have e1 : 2 ^ (b * (j + 1 + d)) = 2 ^ (b * j) * (2 ^ b * 2 ^ (b * d)) := by
   rw [← Nat.pow_add,← Nat.pow_add]; congr 1; simp [Nat.mul_add]; omega
  simp only [dgt]
  rw [e1,Nat.mod_mul_right_div_self,Nat.mod_mul_right_mod]
 rw [key x,key y,e]
theorem putw_mod (b z i v : Nat) : putw b z i v % 2 ^ (b * i) = z % 2 ^ (b * i) := by
 simp [putw,Nat.add_mul_mod_self_left]
theorem putw_div (b z i v : Nat) : putw b z i v / 2 ^ (b * i) = v + 2 ^ b * (z / 2 ^ (b * (i + 1))) := by
 rw [putw,Nat.add_mul_div_left _ _ (Nat.two_pow_pos _),Nat.div_eq_of_lt (Nat.mod_lt _ (Nat.two_pow_pos _)),Nat.zero_add]
theorem putw_dgt (b z i v j : Nat) (hv : v < 2 ^ b) : dgt b (putw b z i v) j = if j = i then v else dgt b z j := by
 by_cases h : j = i
 ·subst h
  rw [if_pos rfl,dgt,putw_div,Nat.add_mul_mod_self_left,Nat.mod_eq_of_lt hv]
 ·rw [if_neg h]
  by_cases h2 : j < i
  ·exact dgt_below b _ _ i j h2 (putw_mod b z i v)
  ·obtain ⟨d,rfl⟩ : ∃ d,j = i + 1 + d := ⟨j - (i + 1),by omega⟩
   have e1 : 2 ^ (b * (i + 1 + d)) = 2 ^ (b * i) * (2 ^ b * 2 ^ (b * d)) := by
    rw [← Nat.pow_add,← Nat.pow_add]; congr 1; simp [Nat.mul_add]; omega
   have e2 : 2 ^ (b * (i + 1)) = 2 ^ (b * i) * 2 ^ b := by rw [← Nat.pow_add]; congr 1
   simp only [dgt]
   congr 1
   rw [e1,← Nat.div_div_eq_div_mul,putw_div,← Nat.div_div_eq_div_mul,Nat.add_mul_div_left _ _ (Nat.two_pow_pos _),Nat.div_eq_of_lt hv,Nat.zero_add,e2,← Nat.div_div_eq_div_mul,← Nat.div_div_eq_div_mul,← Nat.div_div_eq_div_mul,Nat.div_div_eq_div_mul z,← e2]
theorem rowN_set (k : IntKind) (b n z i v : Nat) (hv : v < 2 ^ b) : (rowN k b n z).setIfInBounds i (.int k (v : Nat)) = rowN k b n (putw b z i v) := by
 apply Array.ext_getElem?
 intro j
 by_cases hj : j < n
 ·rw [rowN_get _ _ _ _ _ hj,putw_dgt _ _ _ _ _ hv]
  by_cases h : j = i
  ·subst h
   rw [Array.getElem?_setIfInBounds_self_of_lt (by rw [rowN_size]; exact hj),if_pos rfl]
  ·rw [Array.getElem?_setIfInBounds_ne (by omega),rowN_get _ _ _ _ _ hj,if_neg h]
 ·rw [Array.getElem?_eq_none (by simp [rowN_size]; omega),Array.getElem?_eq_none (by rw [rowN_size]; omega)]
theorem rowN_congr (k : IntKind) (b n x y : Nat) (h : x % 2 ^ (b * n) = y % 2 ^ (b * n)) : rowN k b n x = rowN k b n y := by
 unfold rowN
 congr 1
 apply List.map_congr_left
 intro i hi
 rw [dgt_below b x y n i (List.mem_range.1 hi) h]
theorem mod_succ (b x n : Nat) : x % 2 ^ (b * (n + 1)) = x % 2 ^ (b * n) + 2 ^ (b * n) * dgt b x n := by
 rw [dgt,show b * (n + 1) = b * n + b by simp [Nat.mul_add],Nat.pow_add,Nat.mod_mul]
theorem mod_of_dgt (b x y : Nat) : ∀ n,(∀ i,i < n → dgt b x i = dgt b y i) → x % 2 ^ (b * n) = y % 2 ^ (b * n)
 |0,_ => by simp [Nat.mod_one]
 |n + 1,h => by rw [mod_succ,mod_succ,mod_of_dgt b x y n fun i hi => h i (by omega),h n (by omega)]
theorem putw_new (b z i v : Nat) (hz : z < 2 ^ (b * i)) : putw b z i v = z + 2 ^ (b * i) * v := by
 have e2 : 2 ^ (b * (i + 1)) = 2 ^ (b * i) * 2 ^ b := by rw [← Nat.pow_add]; congr 1
 rw [putw,Nat.mod_eq_of_lt hz,Nat.div_eq_of_lt,Nat.mul_zero,Nat.add_zero]
 rw [e2]
 exact Nat.lt_of_lt_of_le hz (Nat.le_mul_of_pos_right _ (Nat.two_pow_pos b))
theorem res_cell1 {P : Program} {fn : Func} {p : Tmp} {ty : TypeId} {k : IntKind} (h : fn.results = #[.cell p ty]) (tmps : Array Value) (w : World) (g : Nat) (v : Value)
  (hp : tmps.getD p undef = .pointer (some ⟨g,0,none⟩)) (hc : w.cell? ⟨g,0,none⟩ = some v) (hu : P.underlying ty = some (.int k)) : (results fn tmps).run P w = .ok v w := by
 have hp' : tmps[p]?.getD undef = .pointer (some ⟨g,0,none⟩) := by simpa using hp
 have hagg : (isAgg ty).run P w = .ok false w := by
  unfold isAgg
  rw [Sem.run_bind,run_underlying hu w]
  rfl
 simp [results,h,hp',asAddr,loadVar,Sem.run_bind,hagg,hc]
def rowEq (m x y : Nat) : Bool := decide (x % 2 ^ m = y % 2 ^ m)
theorem run_eqItems_rowN {P : Program} (w : World) (e : TypeId) (k : IntKind) (d : Nat) (hp : P.plainKey e = true) (he : P.underlying e = some (.int k)) (b n x y : Nat) :
  ∀ is : List Nat,(∀ i ∈ is,i < n) → (Op.eqItems (d + 1) e 1 (rowN k b n x) (rowN k b n y) is).run P w = .ok (is.all fun i => decide (dgt b x i = dgt b y i)) w
 |[],_ => by simp [Op.eqItems]
 |i :: is,h => by
  have hi := h i (by simp)
  have h1 := run_part_plain w hp (show (rowN k b n x)[i * 1]? = some (.int k (dgt b x i : Nat)) by rw [Nat.mul_one]; exact rowN_get _ _ _ _ _ hi)
  have h2 := run_part_plain w hp (show (rowN k b n y)[i * 1]? = some (.int k (dgt b y i : Nat)) by rw [Nat.mul_one]; exact rowN_get _ _ _ _ _ hi)
  have h4 := run_eqItems_rowN w e k d hp he b n x y is fun j hj => h j (by simp [hj])
  have hall : (List.all (i :: is) fun i => decide (dgt b x i = dgt b y i)) = (decide (dgt b x i = dgt b y i) && List.all is fun i => decide (dgt b x i = dgt b y i)) := rfl
  rw [hall]
  generalize (List.all is fun i => decide (dgt b x i = dgt b y i)) = r at *
  generalize dgt b x i = u at *
  generalize dgt b y i = v at *
  have h3 : (Op.equalIn (d + 1) e (.int k (u : Int)) (.int k (v : Int))).run P w = .ok (decide (u = v)) w := by
   have e1 : ((u : Int) == (v : Int)) = decide (u = v) := by
    by_cases hq : u = v
    ·subst hq; simp
    ·have h5 : ¬ (u : Int) = (v : Int) := by omega
     rw [decide_eq_false hq]
     exact beq_false_of_ne h5
   rw [← e1]
   simp [Op.equalIn,Sem.run_bind,run_underlying he]
  simp only [Op.eqItems,Sem.run_bind,h1,h2,h3,Result.andThen_ok]
  by_cases hq : u = v
  ·simp [hq,h4]
  ·simp [hq]
theorem run_eql_rowN {P : Program} (w : World) (t e : TypeId) (k : IntKind) (b n : Nat) (i : TypeInfo) (hu : P.underlying t = some (.array n e)) (hi : P.info? e = some i) (hc : P.cellsOf e = 1) (hp : P.plainKey e = true) (he : P.underlying e = some (.int k)) (x y : Nat) :
  (binOp .eql t (.agg (rowN k b n x)) (.agg (rowN k b n y))).run P w = .ok (.bool (rowEq (b * n) x y)) w := by
 rw [run_eql_struct,run_equalIn_array w 9999 _ _ hu hi,hc,run_eqItems_rowN w e k 9998 hp he b n x y _ (fun j hj => List.mem_range.1 hj)]
 simp only [Result.andThen_ok]
 congr 2
 unfold rowEq
 rw [Bool.eq_iff_iff]
 simp only [List.all_eq_true,List.mem_range,decide_eq_true_eq]
 constructor
 ·intro h
  exact mod_of_dgt b x y n h
 ·intro h j hj
  exact dgt_below b x y n j hj h
theorem run_neq_rowN {P : Program} (w : World) (t e : TypeId) (k : IntKind) (b n : Nat) (i : TypeInfo) (hu : P.underlying t = some (.array n e)) (hi : P.info? e = some i) (hc : P.cellsOf e = 1) (hp : P.plainKey e = true) (he : P.underlying e = some (.int k)) (x y : Nat) :
  (binOp .neq t (.agg (rowN k b n x)) (.agg (rowN k b n y))).run P w = .ok (.bool (!rowEq (b * n) x y)) w := by
 have := run_eql_rowN w t e k b n i hu hi hc hp he x y
 simp only [binOp] at this ⊢
 cases hq : (Op.equal t (.agg (rowN k b n x)) (.agg (rowN k b n y))).run P w with
 |ok v w' => simp_all
 |halt x w' => simp_all
end Go.Proofs.YtedffdlkmpmdlaaGreatDoor
namespace Go.Proofs.YtedffdlkmpmdlaaGreatDoor
set_option maxRecDepth 100000
set_option linter.unusedVariables false
set_option linter.unusedSimpArgs false
def W256 : Nat := 2 ^ 256
theorem W256_eq : W256 = 2 ^ (64 * 4) := rfl
theorem W256_pos : 0 < W256 := Nat.two_pow_pos 256
def addLo (x y c : Nat) : Nat := (x + y + c) % 2 ^ 64
def addHi (x y c : Nat) : Nat := (x + y + c) / 2 ^ 64
def subLo (x y b : Nat) : Nat := (x + 2 ^ 64 - y - b) % 2 ^ 64
def subHi (x y b : Nat) : Nat := if x < y + b then 1 else 0
def mulLo (x y : Nat) : Nat := x * y % 2 ^ 64
def mulHi (x y : Nat) : Nat := x * y / 2 ^ 64
theorem addLo_lt (x y c : Nat) : addLo x y c < 2 ^ 64 := Nat.mod_lt _ (Nat.two_pow_pos _)
theorem subLo_lt (x y c : Nat) : subLo x y c < 2 ^ 64 := Nat.mod_lt _ (Nat.two_pow_pos _)
theorem mulLo_lt (x y : Nat) : mulLo x y < 2 ^ 64 := Nat.mod_lt _ (Nat.two_pow_pos _)
theorem subHi_le (x y b : Nat) : subHi x y b ≤ 1 := by unfold subHi; split <;> omega
theorem md_at (P B r q : Nat) (h : r < P) : (r + P * q) % (P * B) = r + P * (q % B) := by
 rw [Nat.mod_mul,Nat.add_mul_mod_self_left,Nat.mod_eq_of_lt h,Nat.add_mul_div_left _ _ (by omega),Nat.div_eq_of_lt h,Nat.zero_add]
theorem dv_at (P B r q : Nat) (h : r < P) : (r + P * q) / (P * B) = q / B := by
 rw [← Nat.div_div_eq_div_mul,Nat.add_mul_div_left _ _ (by omega),Nat.div_eq_of_lt h,Nat.zero_add]
theorem pow_next (i : Nat) : 2 ^ (64 * (i + 1)) = 2 ^ (64 * i) * 2 ^ 64 := by rw [← Nat.pow_add]; congr 1
def adT (a b i : Nat) : Nat := a % 2 ^ (64 * i) + b % 2 ^ (64 * i)
def adS (a b i : Nat) : Nat := adT a b i % 2 ^ (64 * i)
def adC (a b i : Nat) : Nat := adT a b i / 2 ^ (64 * i)
theorem adT_succ (a b i : Nat) : adT a b (i + 1) = adS a b i + 2 ^ (64 * i) * (dgt 64 a i + dgt 64 b i + adC a b i) := by
 have h := Nat.mod_add_div (adT a b i) (2 ^ (64 * i))
 have e : adT a b (i + 1) = adT a b i + 2 ^ (64 * i) * (dgt 64 a i + dgt 64 b i) := by
  unfold adT
  rw [mod_succ,mod_succ,Nat.mul_add]
  omega
 rw [e,adS,adC,Nat.mul_add _ _ (adT a b i / _)]
 omega
theorem adS_lt (a b i : Nat) : adS a b i < 2 ^ (64 * i) := Nat.mod_lt _ (Nat.two_pow_pos _)
theorem adS_succ (a b i : Nat) : adS a b (i + 1) = adS a b i + 2 ^ (64 * i) * addLo (dgt 64 a i) (dgt 64 b i) (adC a b i) := by
 show adT a b (i + 1) % _ = _
 rw [adT_succ,pow_next,md_at _ _ _ _ (adS_lt a b i)]
 rfl
theorem adC_succ (a b i : Nat) : adC a b (i + 1) = addHi (dgt 64 a i) (dgt 64 b i) (adC a b i) := by
 show adT a b (i + 1) / _ = _
 rw [adT_succ,pow_next,dv_at _ _ _ _ (adS_lt a b i)]
 rfl
theorem adC_le (a b i : Nat) : adC a b i ≤ 1 := by
 have h1 := Nat.mod_lt a (Nat.two_pow_pos (64 * i))
 have h2 := Nat.mod_lt b (Nat.two_pow_pos (64 * i))
 have : adT a b i < 2 ^ (64 * i) * 2 := by unfold adT; omega
 have := (Nat.div_lt_iff_lt_mul (Nat.two_pow_pos (64 * i))).2 (show adT a b i < 2 * 2 ^ (64 * i) by omega)
 unfold adC
 omega
theorem adS_zero (a b : Nat) : adS a b 0 = 0 := by simp [adS,Nat.mod_one]
theorem adC_zero (a b : Nat) : adC a b 0 = 0 := by simp [adC,adT,Nat.mod_one]
theorem adS_all (a b : Nat) (ha : a < W256) (hb : b < W256) : adS a b 4 = (a + b) % W256 := by
 unfold adS adT
 rw [← W256_eq,Nat.mod_eq_of_lt ha,Nat.mod_eq_of_lt hb]
theorem adC_all (a b : Nat) (ha : a < W256) (hb : b < W256) : (adC a b 4 != 0) = decide (W256 ≤ a + b) := by
 unfold adC adT
 rw [← W256_eq,Nat.mod_eq_of_lt ha,Nat.mod_eq_of_lt hb]
 by_cases h : W256 ≤ a + b
 ·have : 0 < (a + b) / W256 := Nat.div_pos h W256_pos
  simp only [h,decide_true]
  exact bne_iff_ne.2 (by omega)
 ·rw [Nat.div_eq_of_lt (by omega)]
  simp [h]
def sbT (a b i : Nat) : Nat := a % 2 ^ (64 * i) + 2 ^ (64 * i) - b % 2 ^ (64 * i)
def sbS (a b i : Nat) : Nat := sbT a b i % 2 ^ (64 * i)
def sbC (a b i : Nat) : Nat := if a % 2 ^ (64 * i) < b % 2 ^ (64 * i) then 1 else 0
theorem sbS_lt (a b i : Nat) : sbS a b i < 2 ^ (64 * i) := Nat.mod_lt _ (Nat.two_pow_pos _)
theorem sbC_le (a b i : Nat) : sbC a b i ≤ 1 := by unfold sbC; split <;> omega
theorem sb_eq (a b i : Nat) : a % 2 ^ (64 * i) + 2 ^ (64 * i) * sbC a b i = b % 2 ^ (64 * i) + sbS a b i := by
 have h1 := Nat.mod_lt a (Nat.two_pow_pos (64 * i))
 have h2 := Nat.mod_lt b (Nat.two_pow_pos (64 * i))
 unfold sbC sbS sbT
 generalize a % 2 ^ (64 * i) = x at *
 generalize b % 2 ^ (64 * i) = y at *
 generalize 2 ^ (64 * i) = P at *
 split
 ·rw [Nat.mod_eq_of_lt (by omega)]; omega
 ·rw [show x + P - y = x - y + P by omega,Nat.add_mod_right,Nat.mod_eq_of_lt (by omega)]; omega
theorem sb_uniq (P x y s c s' c' : Nat) (h : x + P * c = y + s) (h' : x + P * c' = y + s') (hs : s < P) (hs' : s' < P) (hc : c ≤ 1) (hc' : c' ≤ 1) : s = s' ∧ c = c' := by
 have e0 : c = 0 ∨ c = 1 := by omega
 have e1 : c' = 0 ∨ c' = 1 := by omega
 rcases e0 with rfl | rfl <;> rcases e1 with rfl | rfl <;> simp at h h' ⊢ <;> omega
theorem sub_eq (x y b : Nat) (hx : x < 2 ^ 64) (hy : y < 2 ^ 64) (hb : b ≤ 1) : x + 2 ^ 64 * subHi x y b = y + b + subLo x y b := by
 unfold subHi subLo
 split <;> omega
theorem sb_succ (a b i : Nat) : sbS a b (i + 1) = sbS a b i + 2 ^ (64 * i) * subLo (dgt 64 a i) (dgt 64 b i) (sbC a b i) ∧ sbC a b (i + 1) = subHi (dgt 64 a i) (dgt 64 b i) (sbC a b i) := by
 have h0 := sb_eq a b i
 have h1 := sb_eq a b (i + 1)
 have h2 := sub_eq (dgt 64 a i) (dgt 64 b i) (sbC a b i) (dgt_lt _ _ _) (dgt_lt _ _ _) (sbC_le a b i)
 have h3 := subLo_lt (dgt 64 a i) (dgt 64 b i) (sbC a b i)
 have h4 := sbS_lt a b i
 refine sb_uniq (2 ^ (64 * (i + 1))) (a % 2 ^ (64 * (i + 1))) (b % 2 ^ (64 * (i + 1))) _ _ _ _ h1 ?_ (sbS_lt _ _ _) ?_ (sbC_le _ _ _) (subHi_le _ _ _)
 ·rw [mod_succ,mod_succ,pow_next]
  generalize dgt 64 a i = x at *
  generalize dgt 64 b i = y at *
  generalize sbC a b i = c at *
  generalize subHi x y c = H at *
  generalize subLo x y c = L at *
  have e : 2 ^ (64 * i) * (x + 2 ^ 64 * H) = 2 ^ (64 * i) * (y + c + L) := by rw [h2]
  rw [Nat.mul_add,Nat.mul_add,Nat.mul_add,← Nat.mul_assoc] at e
  omega
 ·rw [pow_next]
  have : 2 ^ (64 * i) * (subLo (dgt 64 a i) (dgt 64 b i) (sbC a b i) + 1) ≤ 2 ^ (64 * i) * 2 ^ 64 := Nat.mul_le_mul_left _ h3
  rw [Nat.mul_add] at this
  omega
theorem sbS_zero (a b : Nat) : sbS a b 0 = 0 := by simp [sbS,Nat.mod_one]
theorem sbC_zero (a b : Nat) : sbC a b 0 = 0 := by simp [sbC,Nat.mod_one]
theorem sbS_all (a b : Nat) (ha : a < W256) (hb : b < W256) : sbS a b 4 = (a + W256 - b) % W256 := by
 unfold sbS sbT
 rw [← W256_eq,Nat.mod_eq_of_lt ha,Nat.mod_eq_of_lt hb]
theorem sbC_all (a b : Nat) (ha : a < W256) (hb : b < W256) : (sbC a b 4 != 0) = decide (a < b) := by
 unfold sbC
 rw [← W256_eq,Nat.mod_eq_of_lt ha,Nat.mod_eq_of_lt hb]
 by_cases h : a < b <;> simp [h]
def mlT (a x i : Nat) : Nat := a % 2 ^ (64 * i) * x
def mlS (a x i : Nat) : Nat := mlT a x i % 2 ^ (64 * i)
def mlH (a x i : Nat) : Nat := mlT a x i / 2 ^ (64 * i)
theorem mlS_lt (a x i : Nat) : mlS a x i < 2 ^ (64 * i) := Nat.mod_lt _ (Nat.two_pow_pos _)
theorem mlT_succ (a x i : Nat) : mlT a x (i + 1) = mlS a x i + 2 ^ (64 * i) * (dgt 64 a i * x + mlH a x i) := by
 have h := Nat.mod_add_div (mlT a x i) (2 ^ (64 * i))
 have e : mlT a x (i + 1) = mlT a x i + 2 ^ (64 * i) * (dgt 64 a i * x) := by
  unfold mlT
  rw [mod_succ,Nat.add_mul,Nat.mul_assoc]
 rw [e,mlS,mlH,Nat.mul_add]
 omega
theorem mlH_lt (a x i : Nat) (hx : x < 2 ^ 64) : mlH a x i < 2 ^ 64 := by
 unfold mlH mlT
 rw [Nat.div_lt_iff_lt_mul (Nat.two_pow_pos _)]
 have h1 := Nat.mod_lt a (Nat.two_pow_pos (64 * i))
 calc a % 2 ^ (64 * i) * x ≤ a % 2 ^ (64 * i) * 2 ^ 64 := Nat.mul_le_mul_left _ (by omega)
  _ < 2 ^ (64 * i) * 2 ^ 64 := Nat.mul_lt_mul_of_pos_right h1 (Nat.two_pow_pos _)
  _ = 2 ^ 64 * 2 ^ (64 * i) := Nat.mul_comm _ _
theorem ml_step (d x H : Nat) : addLo (mulLo d x) H 0 = (d * x + H) % 2 ^ 64 ∧ mulHi d x + addHi (mulLo d x) H 0 = (d * x + H) / 2 ^ 64 := by
 unfold addLo addHi mulLo mulHi
 generalize d * x = q
 omega
theorem mlS_succ (a x i : Nat) : mlS a x (i + 1) = mlS a x i + 2 ^ (64 * i) * addLo (mulLo (dgt 64 a i) x) (mlH a x i) 0 := by
 show mlT a x (i + 1) % _ = _
 rw [mlT_succ,pow_next,md_at _ _ _ _ (mlS_lt a x i),(ml_step _ _ _).1]
theorem mlH_succ (a x i : Nat) : mlH a x (i + 1) = mulHi (dgt 64 a i) x + addHi (mulLo (dgt 64 a i) x) (mlH a x i) 0 := by
 show mlT a x (i + 1) / _ = _
 rw [mlT_succ,pow_next,dv_at _ _ _ _ (mlS_lt a x i),(ml_step _ _ _).2]
theorem mlS_zero (a x : Nat) : mlS a x 0 = 0 := by simp [mlS,Nat.mod_one]
theorem mlH_zero (a x : Nat) : mlH a x 0 = 0 := by simp [mlH,mlT,Nat.mod_one]
theorem mlS_all (a x : Nat) (ha : a < W256) : mlS a x 4 = a * x % W256 := by
 unfold mlS mlT
 rw [← W256_eq,Nat.mod_eq_of_lt ha]
theorem mlH_all (a x : Nat) (ha : a < W256) : (mlH a x 4 != 0) = decide (W256 ≤ a * x) := by
 unfold mlH mlT
 rw [← W256_eq,Nat.mod_eq_of_lt ha]
 by_cases h : W256 ≤ a * x
 ·have : 0 < (a * x) / W256 := Nat.div_pos h W256_pos
  simp only [h,decide_true]
  exact bne_iff_ne.2 (by omega)
 ·rw [Nat.div_eq_of_lt (by omega)]
  simp [h]
def notU (a : Nat) : Nat → Nat
 |0 => a
 |i + 1 => putw 64 (notU a i) i (2 ^ 64 - 1 - dgt 64 a i)
theorem notU_dgt (a : Nat) : ∀ i j,dgt 64 (notU a i) j = if j < i then 2 ^ 64 - 1 - dgt 64 a j else dgt 64 a j
 |0,j => by simp [notU]
 |i + 1,j => by
  rw [notU,putw_dgt _ _ _ _ _ (by have := dgt_lt 64 a i; omega),notU_dgt a i j]
  by_cases h : j = i
  ·subst h; simp
  ·simp only [h,if_false]
   by_cases h2 : j < i
   ·rw [if_pos h2,if_pos (by omega)]
   ·rw [if_neg h2,if_neg (by omega)]
theorem comp_dgt (n : Nat) : ∀ (a i : Nat),i < n → a < 2 ^ (64 * n) → dgt 64 (2 ^ (64 * n) - 1 - a) i = 2 ^ 64 - 1 - dgt 64 a i := by
 induction n with
 |zero => intro a i hi _; omega
 |succ n ih =>
  intro a i hi ha
  have e1 := pow_next n
  have hm := Nat.mod_lt a (Nat.two_pow_pos (64 * n))
  have hd : a / 2 ^ (64 * n) < 2 ^ 64 := by rw [Nat.div_lt_iff_lt_mul (Nat.two_pow_pos _)]; rw [e1,Nat.mul_comm] at ha; exact ha
  have hq : dgt 64 a n = a / 2 ^ (64 * n) := Nat.mod_eq_of_lt hd
  have hs := Nat.mod_add_div a (2 ^ (64 * n))
  have key : 2 ^ (64 * (n + 1)) - 1 - a = (2 ^ (64 * n) - 1 - a % 2 ^ (64 * n)) + 2 ^ (64 * n) * (2 ^ 64 - 1 - a / 2 ^ (64 * n)) := by
   rw [e1]
   generalize a / 2 ^ (64 * n) = q at *
   generalize a % 2 ^ (64 * n) = r at *
   generalize 2 ^ (64 * n) = P at *
   obtain ⟨k,hk⟩ : ∃ k,2 ^ 64 = q + 1 + k := ⟨2 ^ 64 - (q + 1),by omega⟩
   rw [show 2 ^ 64 - 1 - q = k by omega,hk]
   have : P * (q + 1 + k) = P * q + P + P * k := by rw [Nat.mul_add,Nat.mul_add,Nat.mul_one]
   omega
  by_cases hin : i = n
  ·subst hin
   rw [dgt,key,Nat.add_mul_div_left _ _ (Nat.two_pow_pos _),Nat.div_eq_of_lt (by omega),Nat.zero_add,hq,Nat.mod_eq_of_lt (by omega)]
  ·rw [key,dgt_below 64 _ (2 ^ (64 * n) - 1 - a % 2 ^ (64 * n)) n i (by omega) (by rw [Nat.add_mul_mod_self_left]),ih (a % 2 ^ (64 * n)) i (by omega) hm,dgt_below 64 (a % 2 ^ (64 * n)) a n i (by omega) (Nat.mod_mod _ _)]
theorem not_all (a : Nat) (ha : a < W256) (k : IntKind) : rowN k 64 4 (notU a 4) = rowN k 64 4 (W256 - 1 - a) := by
 refine rowN_congr _ _ _ _ _ (mod_of_dgt _ _ _ _ fun i hi => ?_)
 rw [notU_dgt,if_pos hi,W256_eq,comp_dgt 4 a i hi (by rw [← W256_eq]; exact ha)]
end Go.Proofs.YtedffdlkmpmdlaaGreatDoor
namespace Go.Proofs.YtedffdlkmpmdlaaGreatDoor
set_option maxRecDepth 100000
set_option linter.unusedVariables false
set_option linter.unusedSimpArgs false
end Go.Proofs.YtedffdlkmpmdlaaGreatDoor
namespace Go.Proofs.YtedffdlkmpmdlaaGreatDoor
set_option maxRecDepth 100000
set_option linter.unusedVariables false
set_option linter.unusedSimpArgs false
open Go.RowKit Go.Shelf
def Kc (x : Nat) (W W' : World) : Prop := W.heap.size ≤ W'.heap.size ∧ ∀ k c e f,k ≠ x → W.heap[k]? = some (.cells c e f) → W'.heap[k]? = some (.cells c e f)
theorem Kc.refl (x : Nat) (W : World) : Kc x W W := ⟨Nat.le_refl _,fun _ _ _ _ _ h => h⟩
theorem Kc.trans {x : Nat} {A B C : World} (h : Kc x A B) (k : Kc x B C) : Kc x A C := ⟨Nat.le_trans h.1 k.1,fun i c e f hi ha => k.2 i c e f hi (h.2 i c e f hi ha)⟩
theorem Kc.below {x : Nat} {W W' : World} (h : Below W.heap.size W W') : Kc x W W' := ⟨h.size,fun k c e f _ hk => (h.block k (Array.getElem?_eq_some_iff.1 hk).1).trans hk⟩
theorem Kc.fr {x : Nat} {W W' : World} (h : Fr (fun k => k = x) W W') : Kc x W W' := ⟨h.size,fun k c e f hx hk => (h.block k (Array.getElem?_eq_some_iff.1 hk).1 hx).trans hk⟩
theorem Kc.putObj {x : Nat} (W : World) (l : Nat) (o o' : Obj) (h : W.heap[l]? = some o) (hc : o.isCells = false) : Kc x W (W.putObj l o') := by
 refine ⟨by simp [World.putObj],fun k c e f _ hk => ?_⟩
 by_cases hl : k = l
 ·subst hl
  rw [h] at hk
  cases hk
  cases hc
 ·simp only [World.putObj]
  rw [Array.getElem?_setIfInBounds_ne (by omega)]
  exact hk
theorem Kc.cell {x : Nat} {W W' : World} (h : Kc x W W') {p : Addr} {v : Value} (hp : p.block ≠ x) (hc : W.cell? p = some v) : W'.cell? p = some v := by
 unfold World.cell? at hc ⊢
 cases hb : W.heap[p.block]? with
 |none => rw [hb] at hc; cases hc
 |some o =>
  rw [hb] at hc
  cases o with
  |cells c e f => rw [h.2 _ c e f hp hb]; exact hc
  |_ => cases hc
end Go.Proofs.YtedffdlkmpmdlaaGreatDoor
namespace Go.Proofs.YtedffdlkmpmdlaaGreatDoor
set_option maxRecDepth 100000
set_option linter.unusedVariables false
set_option linter.unusedSimpArgs false
open Go.RowKit Go.Shelf
variable {F : Fence} {n : Nat} {P : Program}
def SeqJ {α : Type} (F : Fence) (n : Nat) (P : Program) (gf : Nat) (lb : Array Value) (encs : α → Array Value) (C : List α → World → Prop) (Nx : List α → α → Prop) (S : List α → Prop) : Prop :=
 ∀ (l : Nat) (J Jx : List α → World → Prop) (W : World),(∀ pre W',J pre W' → C pre W') →
  (∀ pre x W1,J pre W1 → Nx pre x → YieldAt F (n - 1) P l (encs x) W1 fun e W' => (e = .returned (.bool true) ∧ J (pre ++ [x]) W') ∨ (e = .returned (.bool false) ∧ Jx (pre ++ [x]) W')) →
  J [] W →
  CallsIn F n P gf (#[.func (.yield l) #[] #[]] ++ lb) W fun e W' => (∃ v,e = .returned v) ∧ ((∃ xs,S xs ∧ J xs W') ∨ (∃ pre,Jx pre W'))
abbrev KT : World → World → Prop := fun _ _ => True
theorem range_law {α : Type} {g : Operand} {ps : Array Tmp} {assign body : Code} {Q : Exit → Act → World → Prop} {a : Act} {w : World}
  (hro : F.round = none) (h1 : 1 ≤ n) {gf : Nat} {lb : Array Value} (hg : a.eval g = .func (.func gf) #[] lb) (hFg : F.fn gf) (eg : ∀ args w,(callFunc gf args).run P w = .ok (.enter gf args) w)
  {encs : α → Array Value} {C : List α → World → Prop} {Nx : List α → α → Prop} {S : List α → Prop} (hseq : SeqJ F (n - 1) P gf lb encs C Nx S) (hps : ∀ x,(encs x).size = ps.size)
  (I : List α → World → Prop) (Ix : Code → List α → World → Prop) (hI : OwnFrom w.heap.size I) (hIx : ∀ c,OwnFrom w.heap.size (Ix c)) (hIC : ∀ pre W,I pre W → C pre W) (h0 : I [] w) (a₁ : α → Act)
  (hassign : ∀ (l : Nat) (x : α) (W : World) (K : Act → World → Prop),K (a₁ x) W →
   assign.wpIn (F.inRound l) (n - 1 - 1) P (Exit.then K (fun _ _ _ => False)) { tmps := (ps.zip (encs x)).foldl (fun t (p,v) => t.setIfInBounds p v) a.tmps,defers := [] } W)
  (hbody : ∀ (l : Nat) (pre : List α) (x : α) (W : World),I pre W → Nx pre x → body.wpIn (F.inRound l) (n - 1 - 1) P (ownPostG w.heap.size KT I Ix (pre ++ [x]) W) (a₁ x) W)
  (hdone : ∀ (D : Nat) (xs : List α) (W : World),w.heap.size ≤ D → S xs → I xs W → W.heap[D]? = some (.deferred (some [])) → Q .normal { a with defers := { target := .collected D,args := #[] } :: a.defers } W)
  (hstop : ∀ (D : Nat) (c : Code) (pre : List α) (W : World),w.heap.size ≤ D → Ix c pre W → W.heap[D]? = some (.deferred (some [])) → c.wpIn F n P Q { a with defers := { target := .collected D,args := #[] } :: a.defers } W) :
  (Code.rangeFunc g ps assign body).wpIn F n P Q a w := by
 refine wpIn_rangeFunc fun fn hfn => ?_
 rw [hro]
 generalize hB : w.heap.size = B at *
 obtain ⟨R,hR⟩ : ∃ R : LoopState → Option Code → Obj,R = fun st pe => .loop { state := st,pending := pe,fn,tmps := a.tmps,params := ps,assign,body,defers := B } := ⟨_,rfl⟩
 obtain ⟨V,hV⟩ : ∃ V,V = (w.alloc (.deferred (some []))).alloc (R .ready none) := ⟨_,rfl⟩
 have hVl : V.heap[B + 1]? = some (R .ready none) := by
  rw [hV,← hB]; have := World.alloc_heap_new (w.alloc (.deferred (some []))) (R .ready none); rwa [World.size_alloc] at this
 have hVd : V.heap[B]? = some (.deferred (some [])) := by
  rw [hV,← hB]; exact (Below.heap_alloc _ _ _ (by simp)).trans (World.alloc_heap_new w _)
 refine ⟨B + 1,[{ target := .collected B,args := #[] }],V,{ target := .fn (.func gf) lb,args := #[.func (.yield (B + 1)) #[] #[]] },V,gf,#[.func (.yield (B + 1)) #[] #[]] ++ lb,V,?_,?_,?_,?_,fun _ => h1,?_⟩
 ·rw [hV,hR,← hB]; exact run_enterLoop_outer _ _ _ _ _
 ·simp only [resolve,hg]
  simp [go_sem]
 ·intro f' hf'
  simp [Target.leads] at hf'
  subst hf'
  exact hFg
 ·simp [invoke,go_sem,eg]
 ·refine (hseq (B + 1) (fun pre W => I pre W ∧ W.heap[B + 1]? = some (R .ready none) ∧ W.heap[B]? = some (.deferred (some [])))
   (fun pre W => ∃ c,Ix c pre W ∧ W.heap[B + 1]? = some (R .done (some c)) ∧ W.heap[B]? = some (.deferred (some []))) V (fun pre W' h => hIC pre W' h.1) ?_ ⟨by rw [hV]; exact hI.alloc _ (hI.alloc _ h0),hVl,hVd⟩).mono ?_
  ·rintro pre x W ⟨hi,hl,hk⟩ hnx
   have hlt : B + 1 < W.heap.size := (Array.getElem?_eq_some_iff.1 hl).1
   rw [hR] at hl
   have hy := run_yield (P := P) (args := encs x) hl (hps x)
   refine ⟨fn,_,assign,body,hy,roundIn_of_wpIn hfn (hassign _ x W _ ⟨_,run_beginRound hl rfl,?_⟩)⟩
   obtain ⟨bz,hbz⟩ : ∃ bz : Loop,bz = { state := .busy,pending := none,fn,tmps := a.tmps,params := ps,assign,body,defers := B } := ⟨_,rfl⟩
   have hl2 : (W.putObj (B + 1) (.loop bz)).heap[B + 1]? = some (.loop bz) := World.putObj_heap_same hlt
   have hk2 : (W.putObj (B + 1) (.loop bz)).heap[B]? = some (.deferred (some [])) := (World.putObj_heap_other (by omega)).trans hk
   rw [← hbz]
   refine wpIn_mono (hbody _ pre x _ (hI.putObj _ hi (by omega) hl rfl) hnx) ?_
   have fin : ∀ (j : Option Code) (U : World),KeepsFrom B (W.putObj (B + 1) (.loop bz)) U → U.heap[B + 1]? = some (.loop bz) ∧
     (Instr.endRound (B + 1) j).run P U = .ok (.bool j.isNone) (U.putObj (B + 1) (R (if j.isNone then .ready else .done) j)) ∧
     (U.putObj (B + 1) (R (if j.isNone then .ready else .done) j)).heap[B + 1]? = some (R (if j.isNone then .ready else .done) j) ∧
     (U.putObj (B + 1) (R (if j.isNone then .ready else .done) j)).heap[B]? = some (.deferred (some [])) := fun j U hk3 => by
    have hl3 := hk3.same _ _ (by omega) hl2 rfl
    refine ⟨hl3,?_,World.putObj_heap_same (Array.getElem?_eq_some_iff.1 hl3).1,(World.putObj_heap_other (by omega)).trans (hk3.same _ _ (Nat.le_refl _) hk2 rfl)⟩
    have := run_endRound (P := P) j hl3
    rw [hbz] at this
    rw [hR]
    exact this
   rintro e a3 U hp
   cases e with
   |normal =>
    obtain ⟨hl3,hr,hl4,hk4⟩ := fin none U hp.1
    exact ⟨_,_,hr,.inl ⟨rfl,hI.putObj _ hp.2.2 (by omega) hl3 rfl,hl4,hk4⟩⟩
   |ret =>
    obtain ⟨hl3,hr,hl4,hk4⟩ := fin (some .ret) U hp.1
    exact ⟨_,_,hr,.inr ⟨rfl,.ret,(hIx _).putObj _ hp.2 (by omega) hl3 rfl,hl4,hk4⟩⟩
   |exit id =>
    obtain ⟨hl3,hr,hl4,hk4⟩ := fin (some (.exit id)) U hp.1
    exact ⟨_,_,hr,.inr ⟨rfl,.exit id,(hIx _).putObj _ hp.2 (by omega) hl3 rfl,hl4,hk4⟩⟩
   |goto t =>
    obtain ⟨hl3,hr,hl4,hk4⟩ := fin (some (.goto t)) U hp.1
    exact ⟨_,_,hr,.inr ⟨rfl,.goto t,(hIx _).putObj _ hp.2 (by omega) hl3 rfl,hl4,hk4⟩⟩
   |panic ch => exact hp.elim
   |outgrown => exact hp.elim
  ·rintro e U ⟨⟨v,rfl⟩,(⟨xs,hS,hi,hl,hk⟩ | ⟨pre,c,hi,hl,hk⟩)⟩
   ·rw [hR] at hl
    exact ⟨none,_,run_endLoop (P := P) hl (by simp),hdone _ xs _ (Nat.le_refl _) hS (hI.putObj _ hi (by omega) hl rfl) ((World.putObj_heap_other (by omega)).trans hk)⟩
   ·rw [hR] at hl
    exact ⟨some c,_,run_endLoop (P := P) hl (by simp),hstop _ c pre _ (Nat.le_refl _) ((hIx c).putObj _ hi (by omega) hl rfl) ((World.putObj_heap_other (by omega)).trans hk)⟩
theorem own_heap {β : Type} (B g : Nat) (c : β → Array Value) (t : TypeId) (f : Nat × Nat) : OwnFrom B (fun (s : β) W => W.heap[g]? = some (.cells (c s) t f)) :=
 fun s A D row hs hg hr => (grownBy_keeps_cells hg (fun r e => (hr r e).2) hs rfl).trans hs
theorem own_pure {β : Type} (B : Nat) (p : β → Prop) : OwnFrom B (fun (s : β) (_ : World) => p s) := fun s A D row hs _ _ => hs
theorem own_below {β : Type} (B n : Nat) (w : World) (h : w.heap.size ≤ B) (hn : n ≤ w.heap.size) : OwnFrom B (fun (_ : β) W => Below n w W) := ownFrom_below hn (by omega)
end Go.Proofs.YtedffdlkmpmdlaaGreatDoor
namespace Go.Proofs.YtedffdlkmpmdlaaGreatDoor
set_option maxRecDepth 100000
set_option linter.unusedVariables false
set_option linter.unusedSimpArgs false
open Go.RowKit Go.Shelf
attribute [local go_sem] Oper.semAt_some
def bt (v : List (Nat × Nat) → Nat) (N : Nat) : Nat → List (Nat × Nat)
 |0 => []
 |k + 1 => bt v N k ++ [(N - 1 - k,v (bt v N k))]
theorem bt_length (v : List (Nat × Nat) → Nat) (N : Nat) : ∀ k,(bt v N k).length = k
 |0 => rfl
 |k + 1 => by simp [bt,bt_length v N k]
def nextU (v : List (Nat × Nat) → Nat) (N : Nat) (pre : List (Nat × Nat)) (x : Nat × Nat) : Prop := pre.length < N ∧ x = (N - 1 - pre.length,v pre) ∧ pre = bt v N pre.length
abbrev encU (x : Nat × Nat) : Array Value := #[.int .i64 (x.1 : Int),.int .u64 (x.2 : Int)]
def seesU (v : List (Nat × Nat) → Nat) (N Bx b off cap : Nat) (pre : List (Nat × Nat)) (W : World) : Prop :=
 W.cell? ⟨Bx,0,none⟩ = some (.slice (some ⟨b,off,none⟩) N cap) ∧ (pre.length < N → W.cell? ⟨b,off + (N - 1 - pre.length),none⟩ = some (.int .u64 (v pre : Nat)))
theorem BackU1_seq (F : Fence) (n : Nat) (hF : F.fn 99) (hro : F.round = none) (hn : 1 ≤ n) (v : List (Nat × Nat) → Nat) (N Bx b off cap : Nat) (hN : N ≤ 140737488355328) :
  SeqJ F n Tryz.prog 99 #[.pointer (some ⟨Bx,0,none⟩)] encU (seesU v N Bx b off cap) (nextU v N) (fun xs => xs = bt v N N) := by
 intro l J Jx W hC hY h0
 refine callsIn_of_wp Tryz.func99 rfl hF ?_ hro
 simp only [Tryz.ntmps99,List.size_toArray,List.length_cons,List.length_nil,Nat.reduceAdd,Nat.reduceSub,Array.replicate_succ,Array.replicate_zero,List.push_toArray,List.append_toArray,List.nil_append,List.cons_append]
 have hbox := (hC _ _ h0).1
 gi_wp2
 gi_loopw [3] (fun i wr => ∃ k : Nat,k ≤ N ∧ i = .int .i64 ((N : Int) - 1 - k) ∧ J (bt v N k) wr) (fun i _ => (intOf i + 1).toNat)
 case atStart => exact ⟨0,Nat.zero_le _,by simp,h0⟩
 case round =>
  clear hbox
  obtain ⟨k,hk,rfl,hJs⟩ := hrel
  obtain ⟨hbox,hcx⟩ := hC _ _ hJs
  rw [bt_length] at hcx
  by_cases hlt : k < N
  ·replace hcx := hcx hlt
   obtain ⟨fn,tmps,assign,body,hy,hR⟩ := hY _ (N - 1 - k,v (bt v N k)) wr hJs ⟨by rw [bt_length]; exact hlt,by rw [bt_length],by rw [bt_length]⟩
   dsimp only [encU] at hy
   have e1 : ((N - 1 - k : Nat) : Int) = (N : Int) - 1 - k := by omega
   rw [e1] at hy
   clear e1
   gi_wp2
   refine hR.mono ?_
   rintro e W3 (⟨rfl,hJ3⟩ | ⟨rfl,hJx3⟩)
   ·gi_wp2
    go_roundw
    case rel => exact ⟨k + 1,by omega,by go_num,hJ3⟩
    case measure => simp [intOf]; omega
   ·gi_wp2
    refine bodyPost_ret (results_none rfl _ _ _) rfl ?_
    exact ⟨⟨_,rfl⟩,.inr ⟨_,hJx3⟩⟩
  ·obtain rfl : k = N := by omega
   gi_wp2
   go_end0
   exact ⟨⟨_,rfl⟩,.inl ⟨_,rfl,hJs⟩⟩
theorem BackU_in (F : Fence) (n : Nat) (hF : F.fn 77) (hro : F.round = none) (a : Option Addr) (len cap : Nat) (w : World) :
  CallsIn F n Tryz.prog 77 #[.slice a len cap] w fun e w' => e = .returned (.func (.func 99) #[] #[.pointer (some ⟨w.heap.size,0,none⟩)]) ∧ w' = w.alloc (.cells #[.slice a len cap] 135) := by
 refine callsIn_of_wp Tryz.func77 rfl hF ?_ hro
 simp only [Tryz.ntmps77,List.size_toArray,List.length_cons,List.length_nil,Nat.reduceAdd,Nat.reduceSub,Array.replicate_succ,Array.replicate_zero,List.push_toArray,List.append_toArray,List.nil_append,List.cons_append]
 gi_wp2
 go_ret
 exact ⟨rfl,rfl⟩
end Go.Proofs.YtedffdlkmpmdlaaGreatDoor
namespace Go.Proofs.YtedffdlkmpmdlaaGreatDoor
set_option maxRecDepth 100000
set_option linter.unusedVariables false
set_option linter.unusedSimpArgs false
structure Guess (y1 y0 u d q r : Nat) : Prop where
 eq : u = q * y1 + r
 ge : (u * 4294967296 + d) / (y1 * 4294967296 + y0) ≤ q
theorem dig_lt {y u d : Nat} (hy : 0 < y) (hu : u < y) (hd : d < 4294967296) : (u * 4294967296 + d) / y < 4294967296 := by
 rw [Nat.div_lt_iff_lt_mul hy]
 have : (u + 1) * 4294967296 ≤ y * 4294967296 := Nat.mul_le_mul_right _ hu
 rw [Nat.add_mul] at this
 rw [Nat.mul_comm 4294967296 y]
 omega
theorem guess_first {y1 y0 u d : Nat} (h1 : 0 < y1) (h0 : y0 < 4294967296) (hd : d < 4294967296) : Guess y1 y0 u d (u / y1) (u % y1) := by
 refine ⟨?_,?_⟩
 ·have := Nat.mod_add_div u y1
  rw [Nat.mul_comm (u / y1)]
  omega
 ·have hY : 0 < y1 * 4294967296 + y0 := by omega
  generalize hq : (u * 4294967296 + d) / (y1 * 4294967296 + y0) = q
  have h2 : q * (y1 * 4294967296 + y0) ≤ u * 4294967296 + d := by rw [← hq]; exact Nat.div_mul_le_self _ _
  rw [Nat.le_div_iff_mul_le h1]
  rw [Nat.mul_add,← Nat.mul_assoc] at h2
  generalize q * y1 = z at *
  generalize q * y0 = t at *
  omega
theorem guess_test {y1 y0 u d q r : Nat} (g : Guess y1 y0 u d q r) : (q * y0 > r * 4294967296 + d) ↔ q * (y1 * 4294967296 + y0) > u * 4294967296 + d := by
 rw [g.eq,Nat.mul_add,← Nat.mul_assoc,Nat.add_mul]
 generalize q * y1 = z
 generalize q * y0 = t
 omega
theorem guess_less {y1 y0 u d q r : Nat} (hY : 0 < y1 * 4294967296 + y0) (g : Guess y1 y0 u d q r) (h : q * (y1 * 4294967296 + y0) > u * 4294967296 + d) : 0 < q ∧ Guess y1 y0 u d (q - 1) (r + y1) := by
 have hlt : (u * 4294967296 + d) / (y1 * 4294967296 + y0) < q := by rw [Nat.div_lt_iff_lt_mul hY]; omega
 refine ⟨Nat.lt_of_le_of_lt (Nat.zero_le _) hlt,?_,Nat.le_sub_one_of_lt hlt⟩
 have hq0 : 0 < q := Nat.lt_of_le_of_lt (Nat.zero_le _) hlt
 clear hlt
 obtain ⟨k,rfl⟩ : ∃ k,q = k + 1 := ⟨q - 1,by omega⟩
 rw [Nat.add_sub_cancel,g.eq,Nat.add_mul]
 omega
theorem guess_big {y1 y0 u d q r : Nat} (hY : 0 < y1 * 4294967296 + y0) (hu : u < y1 * 4294967296 + y0) (hd : d < 4294967296) (g : Guess y1 y0 u d q r) (h : 4294967296 ≤ q) : 0 < q ∧ Guess y1 y0 u d (q - 1) (r + y1) := by
 have hq := dig_lt hY hu hd
 refine guess_less hY g ?_
 have : (u * 4294967296 + d) / (y1 * 4294967296 + y0) < q := Nat.lt_of_lt_of_le hq h
 rw [Nat.div_lt_iff_lt_mul hY] at this
 exact this
theorem guess_end {y1 y0 u d q r : Nat} (hY : 0 < y1 * 4294967296 + y0) (g : Guess y1 y0 u d q r) (h : ¬ q * (y1 * 4294967296 + y0) > u * 4294967296 + d) : q = (u * 4294967296 + d) / (y1 * 4294967296 + y0) := by
 refine Nat.le_antisymm ?_ g.ge
 rw [Nat.le_div_iff_mul_le hY]
 omega
theorem guess_rest {y1 y0 u d q r : Nat} (hY : 0 < y1 * 4294967296 + y0) (h0 : y0 < 4294967296) (hq : q ≤ 4294967296) (g : Guess y1 y0 u d q r) (h : 4294967296 ≤ r) : q = (u * 4294967296 + d) / (y1 * 4294967296 + y0) := by
 refine guess_end hY g ?_
 rw [← guess_test g]
 have h1 : q * y0 ≤ 4294967296 * y0 := Nat.mul_le_mul_right _ hq
 omega
theorem guess_small {y1 y0 u : Nat} (h1 : 2147483648 ≤ y1) (h0 : y0 < 4294967296) (hu : u < y1 * 4294967296 + y0) : u / y1 ≤ 4294967297 := by
 have : u / y1 < 4294967298 := by
  rw [Nat.div_lt_iff_lt_mul (by omega)]
  omega
 omega
theorem two_digits (u v1 v0 y : Nat) (hy : 0 < y) : (u * 18446744073709551616 + (v1 * 4294967296 + v0)) / y = (u * 4294967296 + v1) / y * 4294967296 + ((u * 4294967296 + v1) % y * 4294967296 + v0) / y ∧
  (u * 18446744073709551616 + (v1 * 4294967296 + v0)) % y = ((u * 4294967296 + v1) % y * 4294967296 + v0) % y := by
 have e : u * 18446744073709551616 + (v1 * 4294967296 + v0) = ((u * 4294967296 + v1) % y * 4294967296 + v0) + y * ((u * 4294967296 + v1) / y * 4294967296) := by
  have h := Nat.mod_add_div (u * 4294967296 + v1) y
  generalize (u * 4294967296 + v1) / y = q at *
  generalize (u * 4294967296 + v1) % y = r at *
  rw [← Nat.mul_assoc]
  generalize y * q = z at *
  omega
 rw [e,Nat.add_mul_div_left _ _ hy,Nat.add_mul_mod_self_left]
 exact ⟨Nat.add_comm _ _,rfl⟩
theorem shifted_div (n y s : Nat) : n * 2 ^ s / (y * 2 ^ s) = n / y ∧ n * 2 ^ s % (y * 2 ^ s) / 2 ^ s = n % y := by
 have hp := Nat.two_pow_pos s
 refine ⟨Nat.mul_div_mul_right _ _ hp,?_⟩
 rw [Nat.mul_mod_mul_right,Nat.mul_div_cancel _ hp]
theorem norm_div {hi lo y s Y U V : Nat} (hlt : hi < y) (hs : s ≤ 64) (hY : Y = y * 2 ^ s) (hU : U = hi * 2 ^ s + lo / 2 ^ (64 - s)) (hV : V = lo * 2 ^ s % 2 ^ 64) (hlo : lo < 2 ^ 64) :
  U < Y ∧ (hi * 18446744073709551616 + lo) * 2 ^ s = U * 18446744073709551616 + V ∧ lo / 2 ^ (64 - s) < 2 ^ s := by
 have ps : (2 : Nat) ^ 64 = 2 ^ (64 - s) * 2 ^ s := by rw [← Nat.pow_add]; congr 1; omega
 have hl : lo / 2 ^ (64 - s) < 2 ^ s := by
  rw [Nat.div_lt_iff_lt_mul (Nat.two_pow_pos _),Nat.mul_comm,← ps]
  exact hlo
 refine ⟨?_,?_,hl⟩
 ·have h1 : (hi + 1) * 2 ^ s ≤ y * 2 ^ s := Nat.mul_le_mul_right _ hlt
  rw [Nat.add_mul] at h1
  omega
 ·have h1 := Nat.mod_add_div (lo * 2 ^ s) (2 ^ 64)
  have h2 : lo * 2 ^ s / 2 ^ 64 = lo / 2 ^ (64 - s) := by rw [ps,Nat.mul_div_mul_right _ _ (Nat.two_pow_pos _)]
  rw [h2,← hV] at h1
  rw [hU,Nat.add_mul,Nat.add_mul,← h1]
  generalize lo / 2 ^ (64 - s) = z
  have : hi * 18446744073709551616 * 2 ^ s = hi * 2 ^ s * 18446744073709551616 := by rw [Nat.mul_right_comm]
  omega
theorem dig_rest {u d y q : Nat} (hy : y < 18446744073709551616) (h0 : 0 < y) (hd : d < 4294967296) (hq : q = (u * 4294967296 + d) / y) :
  (((u : Int) * 4294967296 % 18446744073709551616 + d) % 18446744073709551616 - (q : Int) * y % 18446744073709551616) % 18446744073709551616 = (((u * 4294967296 + d) % y : Nat) : Int) := by
 have h := Nat.mod_add_div (u * 4294967296 + d) y
 have hl := Nat.mod_lt (u * 4294967296 + d) h0
 rw [← hq] at h
 generalize (u * 4294967296 + d) % y = r at *
 have e : (q : Int) * y = ((y * q : Nat) : Int) := by rw [Int.natCast_mul,Int.mul_comm]
 rw [e]
 generalize y * q = z at *
 omega
end Go.Proofs.YtedffdlkmpmdlaaGreatDoor
namespace Go.Proofs.YtedffdlkmpmdlaaGreatDoor
set_option maxRecDepth 100000
set_option linter.unusedVariables false
set_option linter.unusedSimpArgs false
open Go.RowKit
theorem Clone_any (a : Option Addr) (n c : Nat) (bs : List UInt8) (w : World) (h : Bs w a c bs) (hn : n = bs.length) (hl : bs.length ≤ 140737488355328) :
  Calls Tryz.prog 71 #[.slice a n c] w (NewBytes bs w) := by
 subst hn
 cases a with
 |none =>
  have h0 := h.nil rfl
  have h1 : bs = [] := List.eq_nil_of_length_eq_zero (by have := h.room; omega)
  subst h0 h1
  go_enter Tryz.func71,Tryz.ntmps71
  go_wp2
  go_ret
  exact ⟨none,0,rfl,h,Fr.refl _ _,fun b e => by cases e⟩
 |some ad =>
  have H1 : Bs (w.alloc (.cells #[] 5)) (some ad) c bs := Sl.fr h ((Fr.refl F0 w).alloc _) fun _ _ => id
  have H2 : OwnB (w.alloc (.cells #[] 5)) (.slice (some ⟨w.heap.size,0,none⟩) 0 0) [] := World.ownsRow_made w #[] 0 (Nat.zero_le _) (Nat.zero_le _) rfl
  go_enter Tryz.func71,Tryz.ntmps71
  go_wp2_with (at_builtin; refine wpList_appB rfl _ _ rfl _ [] rfl H2 _ _ _ _ rfl H1 rfl (by simpa using hl) ?_; intro a' c' w' ho hg hb)
  simp only [List.length_nil,Nat.zero_add,List.nil_append] at ho ⊢
  go_wp2
  go_ret
  refine ⟨a',c',rfl,ho.bs.2,((Fr.refl F0 w).alloc (.cells #[] 5)).grown hg fun k hk hl => ?_,fun b e => ⟨?_,ho.lt b (by rw [ablk_own]; exact e)⟩⟩
  ·cases hk
   exact absurd hl (Nat.lt_irrefl _)
  ·rcases hb b e with h | h
   ·cases h
    exact Nat.le_refl _
   ·simp at h
    omega
end Go.Proofs.YtedffdlkmpmdlaaGreatDoor
namespace Go.Proofs.YtedffdlkmpmdlaaGreatDoor
set_option maxRecDepth 100000
set_option linter.unusedVariables false
set_option linter.unusedSimpArgs false
open Go.RowKit
def le : Nat → Nat → List UInt8
 |0,_ => []
 |n + 1,x => UInt8.ofNat (x % 256) :: le n (x / 256)
theorem le_length (n x : Nat) : (le n x).length = n := by induction n generalizing x with | zero => rfl | succ n ih => simp [le,ih]
theorem le_snoc (n x : Nat) : le (n + 1) x = le n x ++ [UInt8.ofNat (x / 256 ^ n % 256)] := by
 induction n generalizing x with
 |zero => simp [le]
 |succ n ih => rw [le,ih (x / 256),le]; simp [Nat.div_div_eq_div_mul,Nat.pow_succ,Nat.mul_comm]
structure IsW (w : World) (b : Nat) (v : Value) (bs : List UInt8) : Prop where
 at_ : w.heap[b]? = some (.cells #[v] 97 (0,0))
 own : OwnB w v bs
theorem IsW.lt {w : World} {b : Nat} {v : Value} {bs : List UInt8} (h : IsW w b v bs) : b < w.heap.size := (Array.getElem?_eq_some_iff.1 h.at_).1
def WS (b : Nat) (v : Value) : Nat → Prop := fun k => k = b ∨ v.ownBlock = some k
theorem IsW.ne {w : World} {b : Nat} {v : Value} {bs : List UInt8} (h : IsW w b v bs) : v.ownBlock ≠ some b := by
 intro e
 rcases h.own.2 with ⟨rfl,_⟩ | ⟨g,cap,cur,rfl,_,hg,_⟩
 ·cases e
 ·have : g = b := by cases e; rfl
  subst this
  rw [h.at_] at hg
  simp at hg
def WPost (w : World) (b : Nat) (v : Value) (bs : List UInt8) (w' : World) : Prop :=
 ∃ v',IsW w' b v' bs ∧ Fr (WS b v) w w' ∧ ∀ k,v'.ownBlock = some k → v.ownBlock = some k ∨ w.heap.size ≤ k
theorem WPost.refl {w : World} {b : Nat} {v : Value} {bs : List UInt8} (h : IsW w b v bs) : WPost w b v bs w := ⟨v,h,Fr.refl _ _,fun _ => .inl⟩
theorem WPost.trans {w w1 w2 : World} {b : Nat} {v v1 : Value} {bs1 bs2 : List UInt8} (_h1 : IsW w1 b v1 bs1) (hf : Fr (WS b v) w w1) (ho : ∀ k,v1.ownBlock = some k → v.ownBlock = some k ∨ w.heap.size ≤ k)
  (h2 : WPost w1 b v1 bs2 w2) : WPost w b v bs2 w2 := by
 obtain ⟨v2,h,hf2,ho2⟩ := h2
 refine ⟨v2,h,hf.trans hf2 fun i hi hs => ?_,fun k hk => ?_⟩
 ·rcases hs with rfl | hs
  ·exact .inl rfl
  ·rcases ho i hs with h | h
   ·exact .inr h
   ·omega
 ·rcases ho2 k hk with h | h
  ·exact ho k h
  ·exact .inr (Nat.le_trans hf.size h)
theorem WPost.put {w w1 : World} {b : Nat} {v : Value} {bs bs1 : List UInt8} {a : Option Addr} {n c : Nat} (h : IsW w b v bs) {wa : World} (ha : Fr F0 w wa) (hg : wa.grownBy w1 v.ownBlock)
  (ho : OwnB w1 (.slice a n c) bs1) (hb : ∀ k,ablk a = some k → v.ownBlock = some k ∨ wa.heap.size ≤ k) : WPost w b v bs1 (w1.setCell ⟨b,0,none⟩ (.slice a n c)) := by
 have hf : Fr (WS b v) w w1 := (ha.of0).grown hg fun k hk _ => .inr hk
 have hat : w1.heap[b]? = some (.cells #[v] 97 (0,0)) := by
  rw [hg.block b (ha.lt h.lt) (fun e => h.ne e.symm)]
  exact ha.keeps (fun f => f) h.at_
 have hb' : ∀ k,(Value.slice a n c).ownBlock = some k → v.ownBlock = some k ∨ w.heap.size ≤ k := by
  intro k hk
  rw [ablk_own] at hk
  rcases hb k hk with h | h
  ·exact .inl h
  ·exact .inr (Nat.le_trans ha.size h)
 refine ⟨.slice a n c,⟨one_setCell hat,?_⟩,hf.setCell (fun _ => .inl rfl) _,hb'⟩
 refine ho.fr (S := fun k => k = b) (Fr.setCell (S := fun k => k = b) (Fr.refl _ _) (p := ⟨b,0,none⟩) (fun _ => rfl) _) fun k hk e => ?_
 subst e
 rcases hb' k hk with h' | h'
 ·exact h.ne h'
 ·have := h.lt
  omega
theorem byte_val (X : Nat) : B8 (UInt8.ofNat (X % 256)) = .int .u8 ((X : Int) % 256) := by
 simp [B8]
theorem one_byte (w : World) (X : Nat) : Bs (w.alloc (.cells #[.int .u8 ((X : Int) % 256)] 5)) (some ⟨w.heap.size,0,none⟩) 1 [UInt8.ofNat (X % 256)] := by
 refine ⟨rfl,Nat.le_refl _,by simp [maxLen],fun h => by simp at h,fun j u hj => ⟨_,_,rfl,?_⟩⟩
 match j,hj with
 |0,hj =>
  simp only [List.map_cons,List.map_nil,List.getElem?_cons_zero,Option.some.injEq,byte_val] at hj
  subst hj
  simp
theorem Put_any (b : Nat) (v : Value) (bs : List UInt8) (x n : Nat) (w : World) (h : IsW w b v bs) (hx : x < 2 ^ 64) (hn : szB n = true) (hl : bs.length + 8 ≤ 140737488355328) :
  Calls Tryz.prog 45 #[.pointer (some ⟨b,0,none⟩),.int .u64 x,.int .i64 n] w fun e w' => e = .returned (.tuple #[]) ∧ WPost w b v (bs ++ le n x) w' := by
 have hn8 : n ≤ 8 := by
  simp only [szB,Bool.or_eq_true,beq_iff_eq] at hn
  omega
 go_enter Tryz.func45,Tryz.ntmps45
 go_wp2_with (go_at_call 70; refine (isSize_any _ _).mono ?_; rintro e w' ⟨rfl,rfl⟩)
 go_loopw [1,14] (fun xv iv wr => ∃ k X : Nat,k ≤ n ∧ iv = .int .i64 k ∧ xv = .int .u64 X ∧ X < 2 ^ 64 ∧ Hid (X = x / 256 ^ k) ∧ WPost w b v (bs ++ le k x) wr) (fun _ iv _ => n - (intOf iv).toNat)
 case atStart => exact ⟨0,x,Nat.zero_le _,rfl,rfl,hx,by simp [Hid],by simpa [le] using WPost.refl h⟩
 case round =>
  obtain ⟨k,X,hk,rfl,rfl,hX,HX,v1,h1,hf1,ho1⟩ := hrel
  by_cases hkn : k < n
  ·have c1 := cell_of_one h1.at_
   have A1 : Fr F0 wr (wr.alloc (.cells #[.int .u8 ((X : Int) % 256)] 5)) := (Fr.refl _ _).alloc _
   have O1 := h1.own.fr A1 fun _ _ => id
   have hll := le_length k x
   have E1 := Lib.hid hll
   clear hll
   go_wp2_with (at_builtin; refine wpList_appB rfl _ _ rfl _ _ rfl O1 _ _ _ _ rfl (one_byte wr X) rfl (by have := E1.out; simp; omega) ?_; intro a' c' w1 ho hg hb; have p1 := WPost.put h1 A1 hg ho hb; have c2 : w1.cell? ⟨b,0,none⟩ = some v1 := hg.cell (A1.cell (fun f => f) c1) (fun e => h1.ne e.symm); have z2 : w1.frozen? ⟨b,0,none⟩ = false := free_of_one (v := v1) (t := 97) ((hg.block b (A1.lt h1.lt) (fun e => h1.ne e.symm)).trans (A1.keeps (fun f => f) h1.at_)))
   have p2 := WPost.trans h1 hf1 ho1 p1
   simp only [List.length_append,List.length_cons,List.length_nil,Nat.zero_add] at p2
   go_roundw
   case rel =>
    refine ⟨k + 1,X / 256,by omega,by go_num,by go_num,by omega,?_,?_⟩
    ·rw [HX.out]; simp [Hid,Nat.div_div_eq_div_mul,Nat.pow_succ]
    ·rw [le_snoc,← HX.out,← List.append_assoc]
     exact p2
   case measure => simp [intOf]; omega
  ·go_wp2
   go_end0
   have : k = n := by omega
   subst this
   exact ⟨rfl,v1,h1,hf1,ho1⟩
theorem WRaw_any (b : Nat) (v : Value) (bs : List UInt8) (a : Option Addr) (n c : Nat) (xs : List UInt8) (w : World) (h : IsW w b v bs) (hx : Bs w a c xs) (hn : n = xs.length) (hl : bs.length + xs.length ≤ 140737488355328) :
  Calls Tryz.prog 46 #[.pointer (some ⟨b,0,none⟩),.slice a n c] w fun e w' => e = .returned (.tuple #[]) ∧ WPost w b v (bs ++ xs) w' := by
 have c1 := cell_of_one h.at_
 have HN := Lib.hid hn
 clear hn
 go_enter Tryz.func46,Tryz.ntmps46
 go_wp2_with (at_builtin; refine wpList_appB rfl _ _ rfl _ _ rfl h.own _ _ _ _ rfl hx HN.out hl ?_; intro a' c' w1 ho hg hb; have p1 := WPost.put h (Fr.refl _ _) hg ho hb; have c2 : w1.cell? ⟨b,0,none⟩ = some v := hg.cell c1 (fun e => h.ne e.symm); have z2 : w1.frozen? ⟨b,0,none⟩ = false := free_of_one (v := v) (t := 97) ((hg.block b h.lt (fun e => h.ne e.symm)).trans h.at_))
 go_end0
 exact ⟨rfl,p1⟩
theorem WBytes_any (b : Nat) (v : Value) (bs : List UInt8) (w : World) (h : IsW w b v bs) (hl : bs.length ≤ 140737488355328) :
  Calls Tryz.prog 47 #[.pointer (some ⟨b,0,none⟩)] w (NewBytes bs w) := by
 obtain ⟨a,c,rfl⟩ := h.own.slice
 have c1 := cell_of_one h.at_
 have hb := h.own.bs.2
 go_enter Tryz.func47,Tryz.ntmps47
 go_wp2_with (go_at_call 71; refine (Clone_any _ _ _ _ _ hb rfl hl).mono ?_; rintro e w1 ⟨a',c',rfl,h1,h2,h3⟩)
 go_ret
 exact ⟨a',c',rfl,h1,h2,h3⟩
end Go.Proofs.YtedffdlkmpmdlaaGreatDoor
namespace Go.Proofs.YtedffdlkmpmdlaaGreatDoor
set_option maxRecDepth 100000
set_option linter.unusedVariables false
set_option linter.unusedSimpArgs false
open Go.RowKit Go.Shelf
attribute [local go_sem] Oper.semAt_some
abbrev encB (x : Nat × UInt8) : Array Value := #[.int .i64 (x.1 : Int),.int .u8 (x.2.toNat : Int)]
end Go.Proofs.YtedffdlkmpmdlaaGreatDoor
namespace Go.Proofs.YtedffdlkmpmdlaaGreatDoor
set_option maxRecDepth 100000
set_option linter.unusedVariables false
set_option linter.unusedSimpArgs false
open Go.RowKit Go.Shelf
attribute [local go_sem] Oper.semAt_some
end Go.Proofs.YtedffdlkmpmdlaaGreatDoor
namespace Go.Proofs.YtedffdlkmpmdlaaGreatDoor
set_option maxRecDepth 100000
set_option linter.unusedVariables false
set_option linter.unusedSimpArgs false
open Go.RowKit
theorem run_eqItems_bytes {P : Program} (w : World) (e : TypeId) (d : Nat) (hp : P.plainKey e = true) (he : P.underlying e = some (.int .u8)) (l m : List UInt8) (n : Nat) (hl : l.length = n) (hm : m.length = n) :
  ∀ is : List Nat,(∀ i ∈ is,i < n) → (Op.eqItems (d + 1) e 1 (l.map B8).toArray (m.map B8).toArray is).run P w = .ok (is.all fun i => decide (l.getD i 0 = m.getD i 0)) w
 |[],_ => by simp [Op.eqItems]
 |i :: is,h => by
  have hi := h i (by simp)
  have h1 := run_part_plain w hp (show (l.map B8).toArray[i * 1]? = some (B8 (l.getD i 0)) by simp [List.getD,List.getElem?_eq_getElem (show i < l.length by omega)])
  have h2 := run_part_plain w hp (show (m.map B8).toArray[i * 1]? = some (B8 (m.getD i 0)) by simp [List.getD,List.getElem?_eq_getElem (show i < m.length by omega)])
  have h4 := run_eqItems_bytes w e d hp he l m n hl hm is fun j hj => h j (by simp [hj])
  have hall : (List.all (i :: is) fun i => decide (l.getD i 0 = m.getD i 0)) = (decide (l.getD i 0 = m.getD i 0) && List.all is fun i => decide (l.getD i 0 = m.getD i 0)) := rfl
  rw [hall]
  generalize (List.all is fun i => decide (l.getD i 0 = m.getD i 0)) = r at *
  generalize l.getD i 0 = x at *
  generalize m.getD i 0 = y at *
  have h3 : (Op.equalIn (d + 1) e (B8 x) (B8 y)).run P w = .ok (decide (x = y)) w := by
   have e1 : ((x.toNat : Int) == (y.toNat : Int)) = decide (x = y) := by
    by_cases hq : x = y
    ·subst hq; simp
    ·have : x.toNat ≠ y.toNat := fun e => hq (UInt8.toNat_inj.1 e)
     have h5 : ¬ (x.toNat : Int) = (y.toNat : Int) := by omega
     rw [decide_eq_false hq]
     exact beq_false_of_ne h5
   rw [← e1]
   simp [Op.equalIn,B8,Sem.run_bind,run_underlying he]
  simp only [Op.eqItems,Sem.run_bind,h1,h2,h3,Result.andThen_ok]
  by_cases hq : x = y
  ·simp [hq,h4]
  ·simp [hq]
theorem run_eql_bytes {P : Program} (w : World) (t e : TypeId) (n : Nat) (i : TypeInfo) (hu : P.underlying t = some (.array n e)) (hi : P.info? e = some i) (hc : P.cellsOf e = 1) (hp : P.plainKey e = true) (he : P.underlying e = some (.int .u8)) (l m : List UInt8) (hl : l.length = n) (hm : m.length = n) :
  (binOp .eql t (.agg (l.map B8).toArray) (.agg (m.map B8).toArray)).run P w = .ok (.bool (decide (l = m))) w := by
 rw [run_eql_struct,run_equalIn_array w 9999 _ _ hu hi,hc,run_eqItems_bytes w e 9998 hp he l m n hl hm _ (fun j hj => List.mem_range.1 hj)]
 simp only [Result.andThen_ok]
 congr 2
 rw [Bool.eq_iff_iff]
 simp only [List.all_eq_true,List.mem_range,decide_eq_true_eq]
 constructor
 ·intro h
  apply List.ext_getElem (by omega)
  intro j h1 h2
  have := h j (by omega)
  simpa [List.getD,List.getElem?_eq_getElem h1,List.getElem?_eq_getElem h2] using this
 ·rintro rfl j _
  rfl
end Go.Proofs.YtedffdlkmpmdlaaGreatDoor
namespace Go.Proofs.YtedffdlkmpmdlaaGreatDoor
set_option maxRecDepth 100000
set_option linter.unusedVariables false
set_option linter.unusedSimpArgs false
open Go.RowKit
section
variable {F : Fence} {n : Nat} {P : Program} {ops : Array Oper} {Q : Exit → Act → World → Prop} {md : Region.Mode}
end
end Go.Proofs.YtedffdlkmpmdlaaGreatDoor
namespace Go.Proofs.YtedffdlkmpmdlaaGreatDoor
set_option maxRecDepth 100000
open Go.RowKit
theorem results_cell_row_tmp {P : Program} {fn : Func} {p u : Tmp} {ty : TypeId} (h : fn.results = #[.cell p ty,.tmp u]) (tmps : Array Value) (w : World) (g : Nat) (t : TypeId) (cs : Array Value) (fr : Nat × Nat) (d : TypeDesc)
  (hp : tmps.getD p undef = .pointer (some ⟨g,0,none⟩)) (hg : w.heap[g]? = some (.cells cs t fr))
  (hu : P.underlying ty = some d) (hd : (match d with | .struct _ | .array _ _ => true | _ => false) = true) (hi : (P.info? ty).map (·.size) = some cs.size) :
  (results fn tmps).run P w = .ok (.tuple #[.agg cs,tmps.getD u undef]) w := by
 rw [results_cell_tmp h,hp]
 simp [asAddr,run_loadVar_row w g t ty cs fr d hg hu hd hi]
end Go.Proofs.YtedffdlkmpmdlaaGreatDoor
namespace Go.Proofs.YtedffdlkmpmdlaaGreatDoor
set_option maxRecDepth 100000
set_option linter.unusedVariables false
set_option linter.unusedSimpArgs false
open Go.RowKit
structure Hd where
 ver : Nat
 ahead : List UInt8
 root : List UInt8
 time : Nat
 bits : Nat
 nonce : Nat
deriving DecidableEq
structure Hd.Ok (h : Hd) : Prop where
 ver : h.ver < 4294967296
 ahead : h.ahead.length = 32
 root : h.root.length = 32
 time : h.time < 4294967296
 bits : h.bits < 4294967296
 nonce : h.nonce < 4294967296
def Hd.cells (h : Hd) : Array Value := (Value.int .u32 (h.ver : Int) :: (h.ahead.map B8 ++ (h.root.map B8 ++ [Value.int .u32 (h.time : Int),.int .u32 (h.bits : Int),.int .u32 (h.nonce : Int)]))).toArray
theorem Hd.cells_size {h : Hd} (o : h.Ok) : h.cells.size = 68 := by simp [Hd.cells,o.ahead,o.root]
theorem Hd.cell0 {h : Hd} (o : h.Ok) : h.cells[0]? = some (.int .u32 (h.ver : Int)) := by simp [Hd.cells]
theorem Hd.cell65 {h : Hd} (o : h.Ok) : h.cells[65]? = some (.int .u32 (h.time : Int)) := by simp [Hd.cells,List.getElem?_append,o.ahead,o.root]
theorem Hd.cell66 {h : Hd} (o : h.Ok) : h.cells[66]? = some (.int .u32 (h.bits : Int)) := by simp [Hd.cells,List.getElem?_append,o.ahead,o.root]
theorem Hd.cell67 {h : Hd} (o : h.Ok) : h.cells[67]? = some (.int .u32 (h.nonce : Int)) := by simp [Hd.cells,List.getElem?_append,o.ahead,o.root]
theorem Hd.range1 {h : Hd} (o : h.Ok) : (h.cells.extract 1 33).toList = h.ahead.map B8 := by
 simp [Hd.cells,o.ahead,List.take_append,List.drop_append]
theorem Hd.range33 {h : Hd} (o : h.Ok) : (h.cells.extract 33 65).toList = h.root.map B8 := by
 simp [Hd.cells,o.ahead,o.root,List.take_append,List.drop_append]
theorem Hd.one {h : Hd} : rowOne h.cells := by
 unfold rowOne
 rw [Array.all_eq_true_iff_forall_mem]
 intro v hv
 simp only [Hd.cells,List.mem_toArray,List.mem_cons,List.mem_append,List.mem_map,List.not_mem_nil,or_false] at hv
 rcases hv with rfl | ⟨_,_,rfl⟩ | ⟨_,_,rfl⟩ | rfl | rfl | rfl <;> rfl
end Go.Proofs.YtedffdlkmpmdlaaGreatDoor
namespace Go.Proofs.YtedffdlkmpmdlaaGreatDoor
set_option maxRecDepth 100000
set_option linter.unusedVariables false
set_option linter.unusedSimpArgs false
open Go.RowKit
structure Bk where
 hash : List UInt8
 ahead : Int
 time : Nat
 bits : Nat
 bytes : Value
instance : Inhabited Bk := ⟨⟨[],-1,0,0,.bool false⟩⟩
structure Bk.Ok (b : Bk) : Prop where
 hash : b.hash.length = 32
 time : b.time < 4294967296
 bits : b.bits < 4294967296
 bytes : b.bytes.oneCell' = true
def bkT (L : List Bk) (i : Nat) : Bk := L.getD i default
structure WFt (L : List Bk) : Prop where
 ok : ∀ b ∈ L,b.Ok
 up : ∀ i,i < L.length → -1 ≤ (bkT L i).ahead ∧ (bkT L i).ahead < (i : Int)
theorem bkT_mem {L : List Bk} {i : Nat} (h : i < L.length) : bkT L i ∈ L := by
 unfold bkT
 rw [List.getD,List.getElem?_eq_getElem h]
 exact List.getElem_mem h
theorem WFt.at {L : List Bk} (h : WFt L) {i : Nat} (hi : i < L.length) : (bkT L i).Ok := h.ok _ (bkT_mem hi)
def path (L : List Bk) : Nat → Nat → List Nat
 |0,i => [i]
 |f + 1,i => if (bkT L i).ahead < 0 then [i] else i :: path L f (bkT L i).ahead.toNat
def anc (L : List Bk) (i : Nat) : List Nat := path L i i
theorem path_fuel {L : List Bk} (h : WFt L) : ∀ f g i,i ≤ f → i ≤ g → i < L.length → path L f i = path L g i := by
 intro f
 induction f with
 |zero =>
  intro g i hf hg hl
  obtain rfl : i = 0 := by omega
  have := h.up 0 hl
  cases g with
  |zero => rfl
  |succ g => rw [path,path,if_pos (by omega)]
 |succ f ih =>
  intro g i hf hg hl
  have hu := h.up i hl
  cases g with
  |zero =>
   obtain rfl : i = 0 := by omega
   rw [path,path,if_pos (by omega)]
  |succ g =>
   rw [path,path]
   by_cases h0 : (bkT L i).ahead < 0
   ·rw [if_pos h0,if_pos h0]
   ·rw [if_neg h0,if_neg h0,ih g _ (by omega) (by omega) (by omega)]
theorem anc_root {L : List Bk} (h : WFt L) {i : Nat} (hi : i < L.length) (h0 : (bkT L i).ahead < 0) : anc L i = [i] := by
 rw [anc,path_fuel h i (i + 1) i (by omega) (by omega) hi,path,if_pos h0]
theorem anc_step {L : List Bk} (h : WFt L) {i j : Nat} (hi : i < L.length) (hj : (bkT L i).ahead = (j : Int)) : j < i ∧ anc L i = i :: anc L j := by
 have hu := h.up i hi
 refine ⟨by omega,?_⟩
 rw [anc,path_fuel h i (i + 1) i (by omega) (by omega) hi,path,if_neg (by omega),hj,Int.toNat_natCast,anc,path_fuel h i j j (by omega) (by omega) (by omega)]
theorem anc_len {L : List Bk} (h : WFt L) : ∀ i,i < L.length → 0 < (anc L i).length ∧ (anc L i).length ≤ i + 1 := by
 intro i
 induction i using Nat.strongRecOn with
 |_ i ih =>
  intro hi
  have hu := h.up i hi
  by_cases h0 : (bkT L i).ahead < 0
  ·rw [anc_root h hi h0]; simp
  ·obtain ⟨j,hj⟩ := Int.eq_ofNat_of_zero_le (show 0 ≤ (bkT L i).ahead by omega)
   obtain ⟨h1,h2⟩ := anc_step h hi hj
   have := ih j h1 (by omega)
   rw [h2,List.length_cons]
   omega
theorem anc_lt {L : List Bk} (h : WFt L) : ∀ i,i < L.length → ∀ k ∈ anc L i,k ≤ i := by
 intro i
 induction i using Nat.strongRecOn with
 |_ i ih =>
  intro hi k hk
  have hu := h.up i hi
  by_cases h0 : (bkT L i).ahead < 0
  ·rw [anc_root h hi h0] at hk; simp at hk; omega
  ·obtain ⟨j,hj⟩ := Int.eq_ofNat_of_zero_le (show 0 ≤ (bkT L i).ahead by omega)
   obtain ⟨h1,h2⟩ := anc_step h hi hj
   rw [h2,List.mem_cons] at hk
   rcases hk with rfl | hk
   ·exact Nat.le_refl _
   ·have := ih j h1 (by omega) k hk
    omega
def heightM (L : List Bk) (i : Nat) : Nat := (anc L i).length - 1
def lineM (L : List Bk) (i : Nat) : List Nat := (anc L i).reverse
def findFrom (h : List UInt8) : List Bk → Nat → Int
 |[],_ => -1
 |b :: L,k => if b.hash = h then (k : Int) else findFrom h L (k + 1)
def findM (L : List Bk) (h : List UInt8) : Int := findFrom h L 0
def isTip (L : List Bk) (i : Nat) : Bool := L.all fun b => !decide (b.ahead = (i : Int))
def tipsN (L : List Bk) (n : Nat) : Nat := (List.range n).countP fun i => isTip L i
def tipsM (L : List Bk) : Nat := tipsN L L.length
theorem tipsN_succ (L : List Bk) (n : Nat) : tipsN L (n + 1) = tipsN L n + if isTip L n then 1 else 0 := by
 unfold tipsN
 rw [List.range_succ,List.countP_append,List.countP_singleton]
end Go.Proofs.YtedffdlkmpmdlaaGreatDoor
namespace Go.Proofs.YtedffdlkmpmdlaaGreatDoor
set_option maxRecDepth 100000
set_option linter.unusedVariables false
set_option linter.unusedSimpArgs false
open Go.RowKit Go.Shelf
variable {n : Nat} {P : Program}
abbrev YieldW (P : Program) (l : Nat) (args : Array Value) (W : World) (R : Ending → World → Prop) : Prop := YieldAt Fence.wide 0 P l args W R
end Go.Proofs.YtedffdlkmpmdlaaGreatDoor
namespace Go.Proofs.YtedffdlkmpmdlaaGreatDoor
set_option maxRecDepth 100000
set_option linter.unusedVariables false
set_option linter.unusedSimpArgs false
open Go.RowKit
section
variable {n : Nat} {P : Program} {ops : Array Oper} {Q : Exit → Act → World → Prop} {md : Region.Mode} {S : World → Prop}
end
end Go.Proofs.YtedffdlkmpmdlaaGreatDoor
namespace Go.Proofs.YtedffdlkmpmdlaaGreatDoor
set_option maxRecDepth 100000
set_option linter.unusedVariables false
set_option linter.unusedSimpArgs false
open Go.RowKit
def WI (W : World) (g : Nat) (bs : List UInt8) (w : World) : Prop := ∃ v,IsW w g v bs ∧ Fr (fun k => k = g) W w ∧ ∀ k,v.ownBlock = some k → W.heap.size ≤ k
theorem WI.of {W : World} {g : Nat} (h : W.heap[g]? = some (.cells #[.slice none 0 0] 97 (0,0))) : WI W g [] W := ⟨_,⟨h,OwnB.nil W⟩,Fr.refl _ _,fun k e => by cases e⟩
theorem WI.step {W w w' : World} {g : Nat} {v : Value} {bs : List UInt8} (hf : Fr (fun k => k = g) W w) (ho : ∀ k,v.ownBlock = some k → W.heap.size ≤ k) (p : WPost w g v bs w') : WI W g bs w' := by
 obtain ⟨v',h',f',o'⟩ := p
 refine ⟨v',h',hf.trans f' fun i hi hs => ?_,fun k hk => ?_⟩
 ·rcases hs with rfl | hs
  ·rfl
  ·have := ho i hs
   omega
 ·rcases o' k hk with h | h
  ·exact ho k h
  ·exact Nat.le_trans hf.size h
theorem WI.keep {W w : World} {g k : Nat} {bs : List UInt8} {x : Obj} (h : WI W g bs w) (hk : k ≠ g) (hx : W.heap[k]? = some x) : w.heap[k]? = some x := by
 obtain ⟨v,_,f,_⟩ := h
 exact f.keeps (fun e => hk e) hx
theorem WI.put {W w : World} {g : Nat} {bs : List UInt8} (h : WI W g bs w) (x : Nat) (hx : x < 4294967296) (hl : bs.length ≤ 1000) :
  Calls Tryz.prog 45 #[.pointer (some ⟨g,0,none⟩),.int .u64 (x : Int),.int .i64 4] w fun e w' => e = .returned (.tuple #[]) ∧ WI W g (bs ++ le 4 x) w' := by
 obtain ⟨v,hw,f,ho⟩ := h
 exact (Put_any g v bs x 4 w hw (by omega) rfl (by omega)).mono fun e w' ⟨he,p⟩ => ⟨he,WI.step f ho p⟩
theorem WI.raw {W w : World} {g : Nat} {bs : List UInt8} (h : WI W g bs w) (a : Option Addr) (n c : Nat) (xs : List UInt8) (hb : Bs w a c xs) (hn : n = xs.length) (hl : bs.length + xs.length ≤ 100000) :
  Calls Tryz.prog 46 #[.pointer (some ⟨g,0,none⟩),.slice a n c] w fun e w' => e = .returned (.tuple #[]) ∧ WI W g (bs ++ xs) w' := by
 obtain ⟨v,hw,f,ho⟩ := h
 exact (WRaw_any g v bs a n c xs w hw hb hn (by omega)).mono fun e w' ⟨he,p⟩ => ⟨he,WI.step f ho p⟩
theorem WI.bytes {W w w0 : World} {g : Nat} {bs : List UInt8} (h : WI W g bs w) (fW : Fr F0 w0 W) (hg : w0.heap.size ≤ g) (hl : bs.length ≤ 100000) :
  Calls Tryz.prog 47 #[.pointer (some ⟨g,0,none⟩)] w (NewBytes bs w0) := by
 obtain ⟨v,hw,f,ho⟩ := h
 refine (WBytes_any g v bs w hw (by omega)).mono fun e w' ⟨a,c,he,hb,f',n'⟩ => ⟨a,c,he,hb,?_,fun b e => ⟨Nat.le_trans (Nat.le_trans fW.size f.size) (n' b e).1,(n' b e).2⟩⟩
 exact (fW.trans f fun i hi e => by omega).trans' f'
end Go.Proofs.YtedffdlkmpmdlaaGreatDoor
