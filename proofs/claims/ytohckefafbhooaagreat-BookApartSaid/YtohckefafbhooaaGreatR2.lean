import Derived.Test.YtohckefafbhooaaGreatRows
import Derived.WalkKit
import Derived.WalkSpells
import Derived.WalkLawsBesides
import Derived.Lib.Hide
import Derived.Deep.Draws
import Derived.Laws.Rows
import Derived.Laws.Tables
import Derived.Laws.StructEq
import Derived.ChangeKeysEq
import Derived.Below
import Derived.RangeFuncNested
import Derived.RangeFuncBound
import Derived.RangeFuncCalls
import Derived.RangeFuncLeaves
import Derived.Shelf.Abstract
import Derived.Shelf.RegionOpen
import Derived.OwnWalkIn
import Derived.TacticsInMore
import Derived.LoopNIn
import Derived.LoopIn
import Derived.RangeFuncBox
import Derived.RangeFuncWrites
import Derived.OrdersIn
import Derived.BigRegionIn
import Derived.Test.YtohckefafbhooaaGreatR1
import Derived.Deep.RegionHeld
import Derived.Deep.RegionHeld3
import Derived.Sort.CutIn
import Derived.Sort.Row
import Derived.Deep.Cut
import Derived.Deep.CutBlock
import Derived.Laws.ResultCell
set_option maxRecDepth 100000
set_option maxHeartbeats 64000000
namespace Go.Proofs.YtohckefafbhooaaGreat
set_option linter.unusedVariables false
set_option linter.unusedSimpArgs false
open Go.RowKit
structure Fr (S : Nat → Prop) (w w' : World) : Prop where
 os : w'.os = w.os
 tape : w'.tape = w.tape
 output : w'.output = w.output
 size : w.heap.size ≤ w'.heap.size
 block : ∀ k,k < w.heap.size → ¬ S k → w'.heap[k]? = w.heap[k]?
def F0 : Nat → Prop := fun _ => False
theorem Fr.refl (S : Nat → Prop) (w : World) : Fr S w w := ⟨rfl,rfl,rfl,Nat.le_refl _,fun _ _ _ => rfl⟩
theorem Fr.mono {S T : Nat → Prop} {w w' : World} (h : Fr S w w') (hs : ∀ k,k < w.heap.size → S k → T k) : Fr T w w' :=
 ⟨h.os,h.tape,h.output,h.size,fun k hk ht => h.block k hk fun s => ht (hs k hk s)⟩
theorem Fr.of0 {T : Nat → Prop} {w w' : World} (h : Fr F0 w w') : Fr T w w' := h.mono fun _ _ f => f.elim
theorem Fr.trans {S T : Nat → Prop} {a b c : World} (h : Fr S a b) (k : Fr T b c) (hst : ∀ i,i < a.heap.size → T i → S i) : Fr S a c :=
 ⟨k.os.trans h.os,k.tape.trans h.tape,k.output.trans h.output,Nat.le_trans h.size k.size,
  fun i hi hs => (k.block i (Nat.lt_of_lt_of_le hi h.size) fun t => hs (hst i hi t)).trans (h.block i hi hs)⟩
theorem Fr.trans' {S : Nat → Prop} {a b c : World} (h : Fr S a b) (k : Fr S b c) : Fr S a c := h.trans k fun _ _ s => s
theorem Fr.alloc {S : Nat → Prop} {a w : World} (h : Fr S a w) (o : Obj) : Fr S a (w.alloc o) :=
 h.trans (T := F0) ⟨rfl,rfl,rfl,by simp,fun k hk _ => heap_alloc_old w o hk⟩ fun _ _ f => f.elim
theorem Fr.drew {S : Nat → Prop} {a w : World} (h : Fr S a w) : Fr S a w.drew := ⟨h.os,h.tape,h.output,h.size,h.block⟩
theorem Fr.setCell {S : Nat → Prop} {a w : World} (h : Fr S a w) {p : Addr} (hp : p.block < a.heap.size → S p.block) (u : Value) : Fr S a (w.setCell p u) :=
 h.trans (T := fun k => k = p.block) ⟨rfl,rfl,rfl,by simp [World.setCell],fun k _ hk => Below.heap_setCell _ _ _ _ hk⟩ fun i hi e => by subst e; exact hp hi
theorem Fr.grown {S : Nat → Prop} {a w w' : World} {row : Option Nat} (h : Fr S a w) (hg : w.grownBy w' row) (hr : ∀ k,row = some k → k < a.heap.size → S k) : Fr S a w' :=
 h.trans (T := fun k => row = some k) ⟨hg.os,hg.tape,hg.output,hg.size,fun k hk hn => hg.block k hk fun e => hn e.symm⟩ fun i hi e => hr i e hi
theorem Fr.cell {S : Nat → Prop} {w w' : World} (h : Fr S w w') {p : Addr} {v : Value} (hp : ¬ S p.block) (hc : w.cell? p = some v) : w'.cell? p = some v :=
 (World.cell?_of_block (h.block p.block (World.block_lt_of_cell? w p hc) hp)).trans hc
theorem Fr.keeps {S : Nat → Prop} {w w' : World} (h : Fr S w w') {k : Nat} {o : Obj} (hp : ¬ S k) (hc : w.heap[k]? = some o) : w'.heap[k]? = some o :=
 (h.block k (Array.getElem?_eq_some_iff.1 hc).1 hp).trans hc
theorem Fr.below {S : Nat → Prop} {w w' : World} {B : Nat} (h : Fr S w w') (hB : B ≤ w.heap.size) (hs : ∀ k,k < B → ¬ S k) : Below B w w' :=
 ⟨h.os,h.tape,h.output,h.size,fun k hk => h.block k (by omega) (hs k hk)⟩
theorem Fr.aag {w w' : World} {n : Nat} (h : Below n w w') : Fr (fun k => n ≤ k) w w' := ⟨h.os,h.tape,h.output,h.size,fun k _ hn => h.block k (by omega)⟩
structure Sl (w : World) (size : Nat) (a : Option Addr) (c : Nat) (n : Nat) (xs : List Value) : Prop where
 len : xs.length = n * size
 room : n ≤ c
 most : c ≤ maxLen
 nil : a = none → c = 0
 cell : ∀ j u,xs[j]? = some u → ∃ b off,a = some ⟨b,off,none⟩ ∧ w.cell? ⟨b,off + j,none⟩ = some u
def aqn : Option Addr → Option Nat | some a => some a.block | none => none
theorem Sl.kept {w w' : World} {size : Nat} {a : Option Addr} {c n : Nat} {xs : List Value} (h : Sl w size a c n xs)
  (hb : ∀ b,aqn a = some b → b < w.heap.size → w'.heap[b]? = w.heap[b]?) : Sl w' size a c n xs := by
 refine ⟨h.len,h.room,h.most,h.nil,fun j u hj => ?_⟩
 obtain ⟨b,off,rfl,hc⟩ := h.cell j u hj
 have hl : b < w.heap.size := World.block_lt_of_cell? w ⟨b,off + j,none⟩ hc
 exact ⟨b,off,rfl,(World.cell?_of_block (a := ⟨b,off + j,none⟩) (hb b rfl hl)).trans hc⟩
theorem Sl.fr {S : Nat → Prop} {w w' : World} {size : Nat} {a : Option Addr} {c n : Nat} {xs : List Value} (h : Sl w size a c n xs) (hf : Fr S w w')
  (hb : ∀ b,aqn a = some b → ¬ S b) : Sl w' size a c n xs := h.kept fun b e hl => hf.block b hl (hb b e)
theorem Sl.nothing (w : World) (size : Nat) : Sl w size none 0 0 [] := ⟨by simp,Nat.le_refl _,Nat.zero_le _,fun _ => rfl,fun j u h => by simp at h⟩
theorem aen (a : Option Addr) (n c : Nat) : (Value.slice a n c).ownBlock = aqn a := by cases a <;> rfl
theorem Sl.aef {w : World} {base e size : Nat} {a : Option Addr} {c n m : Nat} {xs : List Value} (h : w.ownsRow base e size (.slice a n c) m xs) : m = n ∧ Sl w size a c n xs := by
 obtain ⟨hl,h⟩ := h
 rcases h with ⟨h,rfl⟩ | ⟨g,cap,cur,h,_,hg,hn,hm,hs,ht⟩
 ·simp only [Value.slice.injEq] at h
  obtain ⟨rfl,rfl,rfl⟩ := h
  exact ⟨rfl,by simpa using hl,Nat.le_refl _,Nat.zero_le _,fun _ => rfl,fun j u hj => by
   have : xs = [] := List.eq_nil_of_length_eq_zero (by simpa using hl)
   subst this; simp at hj⟩
 ·simp only [Value.slice.injEq] at h
  obtain ⟨rfl,rfl,rfl⟩ := h
  refine ⟨rfl,hl,hn,hm,fun h => by simp at h,fun j u hj => ⟨g,0,rfl,?_⟩⟩
  rw [Nat.zero_add,cell_of_row w g j cur e (0,0) hg]
  rw [← ht,List.getElem?_take] at hj
  split at hj
  ·simpa using hj
  ·cases hj
theorem aev {w : World} {base e size : Nat} {v : Value} {n : Nat} {xs : List Value} (h : w.ownsRow base e size v n xs) : ∃ a c,v = .slice a n c := by
 rcases h.2 with ⟨rfl,rfl⟩ | ⟨g,cap,cur,rfl,_⟩
 ·exact ⟨none,0,rfl⟩
 ·exact ⟨_,_,rfl⟩
theorem Sl.addr {w : World} {size : Nat} {a : Addr} {c n : Nat} {xs : List Value} (h : Sl w size (some a) c n xs) : ∀ j u,xs[j]? = some u → w.cell? (a.add j) = some u := by
 intro j u hj
 obtain ⟨b,off,e,hc⟩ := h.cell j u hj
 simp only [Option.some.injEq] at e
 subst e
 rw [Addr.add_lit]
 exact hc
theorem aou {P : Program} {w : World} (t ty e : TypeId) (i : TypeInfo) (z : Value) (size bytes : Nat) (ht : P.underlying t = some (.slice e)) (hi : P.info? e = some i) (hz : i.zero = some z)
  (hsize : i.size = size) (hby : i.bytes = bytes) (hzs : z.cells.size = size) (hsz : 0 < size)
  (v : Value) (n : Nat) (xs : List Value) (hown : w.ownsRow 0 e size v n xs) (a : Option Addr) (c m : Nat) (news : List Value) (hs : Sl w size a c m news) (h1 : ∀ u ∈ news,u.oneCell' = true)
  (h63 : n + m ≤ maxLen) (hbytes : (n + m) * bytes ≤ 140737488355328) :
  ∃ v' w',(Builtin.append_ #[t,t] ty #[v,.slice a m c]).run P w = .ok v' w' ∧ w'.ownsRow 0 e size v' (n + m) (xs ++ news) ∧ w.grownBy w' v.ownBlock ∧
   ∀ k,v'.ownBlock = some k → v.ownBlock = some k ∨ w.heap.size ≤ k := by
 cases a with
 |none =>
  have hc := hs.nil rfl
  have hm : m = 0 := by have := hs.room; omega
  subst hc hm
  have hn : news = [] := List.eq_nil_of_length_eq_zero (by simpa using hs.len)
  subst hn
  refine ⟨v,w,run_append_owned_none w 0 t ty e i size ht hi v n xs hown,by simpa using hown,⟨rfl,rfl,rfl,Nat.le_refl _,fun _ _ _ => rfl⟩,fun k hk => .inl hk⟩
 |some a =>
  obtain ⟨v',w',h,h',h'',_⟩ := run_append_own (P := P) w 0 t ty e i z size bytes ht hi hz hsize hby hzs hsz v n xs hown a m c news hs.len hs.addr h1 h63 hbytes (Nat.zero_le _)
  refine ⟨v',w',h,h',h'',fun k hk => ?_⟩
  subst hsize
  subst hby
  have hsmall : n + m ≤ 9223372036854775807 := by simp only [maxLen] at h63; omega
  by_cases hm : m = 0
  ·subst hm
   have hn : news = [] := List.eq_nil_of_length_eq_zero (by simpa using hs.len)
   subst hn
   rcases hown.2 with ⟨rfl,rfl⟩ | ⟨g,cap,cur,rfl,hbg,hg,hnc,hcm,hcs,htake⟩
   ·have hr : (Builtin.append_ #[t,t] ty #[.slice none 0 0,.slice (some a) 0 c]).run P w = .ok (.slice none 0 0) w := by
     simp [Builtin.append_,run_underlying ht,sizeOf,typeInfo,hi,Builtin.lenOf,Builtin.firstCells,loadCells,loadCellsFrom]
    rw [hr] at h
    cases h
    simp [Value.ownBlock] at hk
   ·have hr := run_append_room (P := P) w t ty e i ht hi g n cap cur hg a 0 c [] hs.len hs.addr h1 (by omega) (by rw [hcs]; simp; exact Nat.mul_le_mul_right _ hnc)
    rw [hr] at h
    cases h
    exact .inl hk
  ·rcases hown.2 with ⟨rfl,rfl⟩ | ⟨g,cap,cur,rfl,hbg,hg,hnc,hcm,hcs,htake⟩
   ·have hr := run_append_nil (P := P) w t ty e i z ht hi hz a m c news hs.len hs.addr (by omega) (by omega) (by simp at hbytes; omega)
    rw [hr] at h
    cases h
    simp [Value.ownBlock] at hk
    exact .inr (by omega)
   ·by_cases hroom : n + m ≤ cap
    ·have hr := run_append_room (P := P) w t ty e i ht hi g n cap cur hg a m c news hs.len hs.addr h1 hroom (by rw [hs.len,hcs,← Nat.add_mul]; exact Nat.mul_le_mul_right _ hroom)
     rw [hr] at h
     cases h
     exact .inl hk
    ·have hr := run_append_grow (P := P) w t ty e i z ht hi hz ⟨g,0,none⟩ n cap xs hown.1 (hown.cells (g := g) rfl) a m c news hs.len hs.addr (by omega) (by omega) (growslice_fits (by omega) hbytes)
     rw [hr] at h
     cases h
     simp [Value.ownBlock] at hk
     exact .inr (by omega)
theorem ais {P : Program} {w : World} {ops : Array Oper} {rest : List Oper} {o : Oper} {a : Act} {Q : Exit → Act → World → Prop} (hgd : o.guard = none) (s x : Operand) (t : TypeId)
  (ho : o.op = .call { callee := .builtin .append,args := #[s,x],argTypes := #[t,t] })
  (e : TypeId) (i : TypeInfo) (z : Value) (size bytes : Nat) (ht : P.underlying t = some (.slice e)) (hi : P.info? e = some i) (hz : i.zero = some z)
  (hsize : i.size = size) (hby : i.bytes = bytes) (hzs : z.cells.size = size) (hsz : 0 < size)
  (v : Value) (n : Nat) (xs : List Value) (hs : a.eval s = v) (hown : w.ownsRow 0 e size v n xs)
  (ad : Option Addr) (c m : Nat) (news : List Value) (hx : a.eval x = .slice ad m c) (hsl : Sl w size ad c m news) (h1 : ∀ u ∈ news,u.oneCell' = true)
  (h63 : n + m ≤ maxLen) (hbytes : (n + m) * bytes ≤ 140737488355328)
  (h : ∀ a' c' w',w'.ownsRow 0 e size (.slice a' (n + m) c') (n + m) (xs ++ news) → w.grownBy w' v.ownBlock → (∀ k,aqn a' = some k → v.ownBlock = some k ∨ w.heap.size ≤ k) → wpList P ops Q rest (a.put o.dst (.slice a' (n + m) c')) w') : wpList P ops Q (o :: rest) a w := by
 refine wpList_plain hgd fun K hK => ?_
 obtain ⟨v',w',hr,h2,h3,h4⟩ := aou (P := P) t o.type e i z size bytes ht hi hz hsize hby hzs hsz v n xs hown ad c m news hsl h1 h63 hbytes
 obtain ⟨a',c',rfl⟩ := aev h2
 unfold Oper.wp execOp
 simp only [ho,resolve,invoke,builtin,Sem.run_bind,Sem.run_pure,Result.andThen_ok,List.map_toArray,List.map_cons,List.map_nil,hs,hx,hr]
 exact hK _ _ (h a' c' w' h2 h3 (by simpa [aen] using h4))
def B8 (x : UInt8) : Value := .int .u8 x.toNat
def gu (t : TypeId) (p : Value) : Sem Value := Instr.loadAt t p
def jd (t : TypeId) (p v : Value) : Sem Unit := Instr.storeAt t p v
def abe (P : Program) (t : TypeId) (p : Value) (w : World) (n : Nat) : Option Obj → Result Value
 |some (.cells cs _ _) => if cs.size = n then .ok (.agg cs) w else (Instr.loadAt t p).run P w
 |_ => (Instr.loadAt t p).run P w
theorem abx {P : Program} {t : TypeId} {p : Value} {w : World} {n : Nat} {cs : Array Value} {t' : TypeId} {fr : Nat × Nat} (h : cs.size = n) :
  abe P t p w n (some (.cells cs t' fr)) = .ok (.agg cs) w := if_pos h
theorem ku {P : Program} (w : World) (t : TypeId) (g n : Nat) (d : TypeDesc) (hu : P.underlying t = some d) (hd : (match d with | .struct _ | .array _ _ => true | _ => false) = true) (hi : (P.info? t).map (·.size) = some n) :
  (gu t (.pointer (some ⟨g,0,none⟩))).run P w = abe P t (.pointer (some ⟨g,0,none⟩)) w n w.heap[g]? := by
 cases hg : w.heap[g]? with
 |none => rfl
 |some o =>
  cases o with
  |cells cs t' fr =>
   by_cases h : cs.size = n
   ·rw [abx h]
    show (Instr.loadAt t (.pointer (some ⟨g,0,none⟩))).run P w = _
    simp only [Instr.loadAt,Instr.sureAddr,Sem.run_bind,Sem.run_pure,Result.andThen_ok]
    exact run_loadVar_row w g t' t cs fr d hg hu hd (by rw [hi,h])
   ·simp [abe,h,gu]
  |_ => rfl
def yg (cells : Array Value) : Prop := cells.all (·.oneCell') = true
def aec (P : Program) (t : TypeId) (p : Value) (cells : Array Value) (g : Nat) (w : World) (n : Nat) : Option Obj → Result Unit
 |some (.cells old _ fr) => if fr = (0,0) ∧ old.size = n ∧ cells.size = n ∧ cells.all (·.oneCell') = true then .ok () (w.setRow g cells) else (Instr.storeAt t p (.agg cells)).run P w
 |_ => (Instr.storeAt t p (.agg cells)).run P w
theorem ad5 {P : Program} {t : TypeId} {p : Value} {cells : Array Value} {g : Nat} {w : World} {n : Nat} {old : Array Value} {t' : TypeId} (h : old.size = n) (h1 : cells.size = n) (h2 : yg cells) :
  aec P t p cells g w n (some (.cells old t' (0,0))) = .ok () (w.setRow g cells) := if_pos ⟨rfl,h,h1,h2⟩
theorem ou {P : Program} (w : World) (t : TypeId) (g n : Nat) (cells : Array Value) (hi : (P.info? t).map (·.size) = some n) :
  (jd t (.pointer (some ⟨g,0,none⟩)) (.agg cells)).run P w = aec P t (.pointer (some ⟨g,0,none⟩)) cells g w n w.heap[g]? := by
 cases hg : w.heap[g]? with
 |none => rfl
 |some o =>
  cases o with
  |cells old t' fr =>
   by_cases h : fr = (0,0) ∧ old.size = n ∧ cells.size = n ∧ cells.all (·.oneCell') = true
   ·obtain ⟨rfl,h1,h2,h3⟩ := h
    rw [ad5 h1 h2 h3]
    show (Instr.storeAt t (.pointer (some ⟨g,0,none⟩)) (.agg cells)).run P w = _
    simp only [Instr.storeAt,Instr.sureAddr,Sem.run_bind,Sem.run_pure,Result.andThen_ok]
    exact run_storeVar_row w g t' t old cells hg (by rw [hi,h2]) (by rw [h1,h2]) h3
   ·simp only [aec,h,if_false]
    rfl
  |_ => rfl
def Obj.avo (cs : Array Value) : Obj → Obj
 |.cells _ t fr => .cells cs t fr
 |o => o
def Obj.aj0 (i : Nat) (v : Value) : Obj → Obj
 |.cells cs t fr => .cells (cs.setIfInBounds i v) t fr
 |o => o
theorem bf (w : World) (g : Nat) (cs : Array Value) : (w.setRow g cs).heap[g]? = (w.heap[g]?).map (Obj.avo cs) := by
 simp only [World.setRow,Array.getElem?_modify,if_true]
 try congr 1
 try (funext o; cases o <;> rfl)
theorem dh (w : World) (g k : Nat) (cs : Array Value) (h : k ≠ g) : (w.setRow g cs).heap[k]? = w.heap[k]? := setRow_other w g k cs h
theorem cu (w : World) (g i : Nat) (v : Value) : (w.setCell ⟨g,i,none⟩ v).heap[g]? = (w.heap[g]?).map (Obj.aj0 i v) := by
 simp only [World.setCell,Array.getElem?_modify,if_true]
 try congr 1
 try (funext o; cases o <;> rfl)
theorem bn (w : World) (g i k : Nat) (v : Value) (h : k ≠ g) : (w.setCell ⟨g,i,none⟩ v).heap[k]? = w.heap[k]? := Below.heap_setCell _ _ _ _ h
theorem acg (cs c : Array Value) (t : TypeId) (fr : Nat × Nat) : Option.map (Obj.avo cs) (some (.cells c t fr)) = some (.cells cs t fr) := rfl
theorem jr (i : Nat) (v : Value) (c : Array Value) (t : TypeId) (fr : Nat × Nat) : Option.map (Obj.aj0 i v) (some (.cells c t fr)) = some (.cells (c.setIfInBounds i v) t fr) := rfl
def Obj.cellAt (i : Nat) : Option Obj → Option Value
 |some (.cells cs _ _) => cs[i]?
 |_ => none
theorem jg (i : Nat) (cs : Array Value) (t : TypeId) (fr : Nat × Nat) : Obj.cellAt i (some (.cells cs t fr)) = cs[i]? := rfl
theorem gq (w : World) (g i : Nat) : w.cell? ⟨g,i,none⟩ = Obj.cellAt i w.heap[g]? := by
 simp only [World.cell?]
 cases w.heap[g]? with
 |none => rfl
 |some o => cases o <;> rfl
def Obj.frozenAt (i : Nat) : Option Obj → Bool
 |some (.cells _ _ (lo,hi)) => lo ≤ i && i < hi
 |_ => false
theorem ab2 (i : Nat) (cs : Array Value) (t : TypeId) : Obj.frozenAt i (some (.cells cs t (0,0))) = false := by simp [Obj.frozenAt]
theorem aex (w : World) (g i : Nat) : w.frozen? ⟨g,i,none⟩ = Obj.frozenAt i w.heap[g]? := by
 simp only [World.frozen?]
 cases w.heap[g]? with
 |none => rfl
 |some o => cases o <;> rfl
theorem mg (w : World) : w.drew.heap = w.heap := rfl
theorem Fr.setRow {S : Nat → Prop} {a w : World} (h : Fr S a w) {g : Nat} (hp : g < a.heap.size → S g) (cs : Array Value) : Fr S a (w.setRow g cs) :=
 h.trans (T := fun k => k = g) ⟨rfl,rfl,rfl,by simp,fun k _ hk => setRow_other w g k cs hk⟩ fun i hi e => by subst e; exact hp hi
theorem aut (L : List Obj) : ∀ (w : World) (k : Nat),k < w.heap.size → (L.foldl World.alloc w).heap[k]? = w.heap[k]? := by
 induction L with
 |nil => intro w k _; rfl
 |cons A L ih =>
  intro w k hk
  rw [List.foldl_cons,ih _ _ (by simp; omega)]
  exact heap_alloc_old _ _ hk
theorem ap2 (L : List Obj) : ∀ (w : World) (j : Nat),j < L.length → (L.foldl World.alloc w).heap[w.heap.size + j]? = L[j]? := by
 induction L with
 |nil => intro w j h; simp at h
 |cons A L ih =>
  intro w j h
  rw [List.foldl_cons]
  cases j with
  |zero =>
   rw [Nat.add_zero,aut L _ _ (by simp)]
   exact heap_alloc_new w A
  |succ j =>
   have := ih (w.alloc A) j (by simpa using h)
   rw [World.size_alloc] at this
   rw [show w.heap.size + (j + 1) = w.heap.size + 1 + j by omega,this]
   rfl
theorem Fr.allocs {S : Nat → Prop} {a : World} (L : List Obj) : ∀ {w : World},Fr S a w → Fr S a (L.foldl World.alloc w) := by
 induction L with
 |nil => intro w h; exact h
 |cons A L ih => intro w h; exact ih (h.alloc A)
theorem ao8 (L : List Obj) : ∀ (w : World),(L.foldl World.alloc w).heap.size = w.heap.size + L.length := by
 induction L with
 |nil => intro w; rfl
 |cons A L ih => intro w; rw [List.foldl_cons,ih,World.size_alloc,List.length_cons]; omega
theorem oh {w : World} {o : Obj} {k : Nat} {x : Obj} (h : w.heap[k]? = some x) : (w.alloc o).heap[k]? = some x := by
 rw [heap_alloc_old _ _ (Array.getElem?_eq_some_iff.1 h).1]; exact h
theorem dn {w w' : World} {k : Nat} {x : Obj} (f : Fr F0 w w') (h : w.heap[k]? = some x) : w'.heap[k]? = some x := f.keeps (fun f => f) h
theorem aac {w : World} {g : Nat} {c : Array Value} {k : Nat} {x : Obj} (hk : k ≠ g) (h : w.heap[k]? = some x) : (w.setRow g c).heap[k]? = some x := by rw [dh _ _ _ _ hk]; exact h
theorem ady {w : World} {g : Nat} {c : Array Value} {z : Array Value} {t : TypeId} {f : Nat × Nat} (h : w.heap[g]? = some (.cells z t f)) : (w.setRow g c).heap[g]? = some (.cells c t f) := by
 rw [bf,h]; rfl
theorem agz {P : Program} {t : TypeId} {p : Value} {w : World} {n : Nat} {cs : Array Value} {t' : TypeId} {fr : Nat × Nat} {o : Option Obj} (ho : o = some (.cells cs t' fr)) (h : cs.size = n) :
  abe P t p w n o = .ok (.agg cs) w := by subst ho; exact abx h
structure air (w W : World) (g : Nat) (c : Array Value) (t : TypeId) : Prop where
 new : W.heap[g]? = some (.cells c t (0,0))
 old : ∀ {k : Nat} {o : Obj},w.heap[k]? = some o → W.heap[k]? = some o
 fr : Fr F0 w W
 ne : ∀ {k : Nat} {o : Obj},w.heap[k]? = some o → k ≠ g
theorem afc (w : World) (z c : Array Value) (t : TypeId) : air w ((w.alloc (.cells z t)).setRow w.heap.size c) w.heap.size c t :=
 ⟨ady (heap_alloc_new _ _),fun h => aac (by have := (Array.getElem?_eq_some_iff.1 h).1; omega) (oh h),((Fr.refl F0 w).alloc _).setRow (fun h => by omega) _,fun h => by have := (Array.getElem?_eq_some_iff.1 h).1; omega⟩
def dgt (b x i : Nat) : Nat := x / 2 ^ (b * i) % 2 ^ b
theorem abf (b x i : Nat) : dgt b x i < 2 ^ b := Nat.mod_lt _ (Nat.two_pow_pos b)
def ig (k : IntKind) (b n x : Nat) : Array Value := ((List.range n).map fun i => Value.int k (dgt b x i : Nat)).toArray
theorem aas (k : IntKind) (b n x : Nat) : (ig k b n x).size = n := by simp [ig]
theorem az0 (k : IntKind) (b n x : Nat) : (ig k b n x).all (·.oneCell') = true := by
 rw [Array.all_eq_true_iff_forall_mem]
 intro v hv
 simp only [ig,List.mem_toArray,List.mem_map] at hv
 obtain ⟨i,_,rfl⟩ := hv
 rfl
theorem yt (k : IntKind) (b n x i : Nat) (h : i < n) : (ig k b n x)[i]? = some (.int k (dgt b x i : Nat)) := by
 simp [ig,h]
theorem apf (k : IntKind) (b n x : Nat) : yg (ig k b n x) := az0 k b n x
theorem amy (k : IntKind) (b n x i : Nat) (h : i < (ig k b n x).size) : (ig k b n x)[i] = .int k (dgt b x i : Nat) := by
 simp [ig]
theorem ach {P : Program} (w : World) (t e : TypeId) (n : Nat) (cs : Array Value) (k : IntKind) (i : Nat) (d : TypeDesc) (hu : P.underlying t = some (.array n e)) (he : P.underlying e = some d) (hd : (match d with | .struct _ | .array _ _ => true | _ => false) = false)
  (hi : (P.info? e).map (·.size) = some 1) (v : Value) (h1 : i < n) (hv : cs[i]? = some v) :
  (Instr.index t (.agg cs) (.int k (i : Int))).run P w = .ok v w := by
 cases hq : P.info? e with
 |none => simp [hq] at hi
 |some io =>
  have hs : io.size = 1 := by simpa [hq] using hi
  have hagg : (isAgg e).run P w = .ok false w := by
   unfold isAgg
   rw [Sem.run_bind,run_underlying he w]
   cases d <;> simp_all
  have h0 : (0 : Int) ≤ i ∧ (i : Int) < n := ⟨by omega,by omega⟩
  simp [Instr.index,asIntOf,Sem.run_bind,run_underlying hu w,h0,sizeOf,typeInfo,hq,hs,part,hagg,hv]
  try omega
def ae5 (b z i v : Nat) : Nat := z % 2 ^ (b * i) + 2 ^ (b * i) * (v + 2 ^ b * (z / 2 ^ (b * (i + 1))))
theorem ac1 (b x y i j : Nat) (h : j < i) (e : x % 2 ^ (b * i) = y % 2 ^ (b * i)) : dgt b x j = dgt b y j := by
 have key : ∀ z,dgt b z j = dgt b (z % 2 ^ (b * i)) j := by
  intro z
  obtain ⟨d,rfl⟩ : ∃ d,i = j + 1 + d := ⟨i - (j + 1),by omega⟩
  have e1 : 2 ^ (b * (j + 1 + d)) = 2 ^ (b * j) * (2 ^ b * 2 ^ (b * d)) := by
   rw [← Nat.pow_add,← Nat.pow_add]; congr 1; simp [Nat.mul_add]; omega
  simp only [dgt]
  rw [e1,Nat.mod_mul_right_div_self,Nat.mod_mul_right_mod]
 rw [key x,key y,e]
theorem az8 (b z i v : Nat) : ae5 b z i v % 2 ^ (b * i) = z % 2 ^ (b * i) := by
 simp [ae5,Nat.add_mul_mod_self_left]
theorem aq8 (b z i v : Nat) : ae5 b z i v / 2 ^ (b * i) = v + 2 ^ b * (z / 2 ^ (b * (i + 1))) := by
 rw [ae5,Nat.add_mul_div_left _ _ (Nat.two_pow_pos _),Nat.div_eq_of_lt (Nat.mod_lt _ (Nat.two_pow_pos _)),Nat.zero_add]
theorem akc (b z i v j : Nat) (hv : v < 2 ^ b) : dgt b (ae5 b z i v) j = if j = i then v else dgt b z j := by
 by_cases h : j = i
 ·subst h
  rw [if_pos rfl,dgt,aq8,Nat.add_mul_mod_self_left,Nat.mod_eq_of_lt hv]
 ·rw [if_neg h]
  by_cases h2 : j < i
  ·exact ac1 b _ _ i j h2 (az8 b z i v)
  ·obtain ⟨d,rfl⟩ : ∃ d,j = i + 1 + d := ⟨j - (i + 1),by omega⟩
   have e1 : 2 ^ (b * (i + 1 + d)) = 2 ^ (b * i) * (2 ^ b * 2 ^ (b * d)) := by
    rw [← Nat.pow_add,← Nat.pow_add]; congr 1; simp [Nat.mul_add]; omega
   have e2 : 2 ^ (b * (i + 1)) = 2 ^ (b * i) * 2 ^ b := by rw [← Nat.pow_add]; congr 1
   simp only [dgt]
   congr 1
   rw [e1,← Nat.div_div_eq_div_mul,aq8,← Nat.div_div_eq_div_mul,Nat.add_mul_div_left _ _ (Nat.two_pow_pos _),Nat.div_eq_of_lt hv,Nat.zero_add,e2,← Nat.div_div_eq_div_mul,← Nat.div_div_eq_div_mul,← Nat.div_div_eq_div_mul,Nat.div_div_eq_div_mul z,← e2]
theorem aei (k : IntKind) (b n z i v : Nat) (hv : v < 2 ^ b) : (ig k b n z).setIfInBounds i (.int k (v : Nat)) = ig k b n (ae5 b z i v) := by
 apply Array.ext_getElem?
 intro j
 by_cases hj : j < n
 ·rw [yt _ _ _ _ _ hj,akc _ _ _ _ _ hv]
  by_cases h : j = i
  ·subst h
   rw [Array.getElem?_setIfInBounds_self_of_lt (by rw [aas]; exact hj),if_pos rfl]
  ·rw [Array.getElem?_setIfInBounds_ne (by omega),yt _ _ _ _ _ hj,if_neg h]
 ·rw [Array.getElem?_eq_none (by simp [aas]; omega),Array.getElem?_eq_none (by rw [aas]; omega)]
theorem aiy (k : IntKind) (b n x y : Nat) (h : x % 2 ^ (b * n) = y % 2 ^ (b * n)) : ig k b n x = ig k b n y := by
 unfold ig
 congr 1
 apply List.map_congr_left
 intro i hi
 rw [ac1 b x y n i (List.mem_range.1 hi) h]
theorem mod_succ (b x n : Nat) : x % 2 ^ (b * (n + 1)) = x % 2 ^ (b * n) + 2 ^ (b * n) * dgt b x n := by
 rw [dgt,show b * (n + 1) = b * n + b by simp [Nat.mul_add],Nat.pow_add,Nat.mod_mul]
theorem ade (b x y : Nat) : ∀ n,(∀ i,i < n → dgt b x i = dgt b y i) → x % 2 ^ (b * n) = y % 2 ^ (b * n)
 |0,_ => by simp [Nat.mod_one]
 |n + 1,h => by rw [mod_succ,mod_succ,ade b x y n fun i hi => h i (by omega),h n (by omega)]
theorem aga (b z i v : Nat) (hz : z < 2 ^ (b * i)) : ae5 b z i v = z + 2 ^ (b * i) * v := by
 have e2 : 2 ^ (b * (i + 1)) = 2 ^ (b * i) * 2 ^ b := by rw [← Nat.pow_add]; congr 1
 rw [ae5,Nat.mod_eq_of_lt hz,Nat.div_eq_of_lt,Nat.mul_zero,Nat.add_zero]
 rw [e2]
 exact Nat.lt_of_lt_of_le hz (Nat.le_mul_of_pos_right _ (Nat.two_pow_pos b))
theorem aeo {P : Program} {fn : Func} {p : Tmp} {ty : TypeId} {k : IntKind} (h : fn.results = #[.cell p ty]) (tmps : Array Value) (w : World) (g : Nat) (v : Value)
  (hp : tmps.getD p undef = .pointer (some ⟨g,0,none⟩)) (hc : w.cell? ⟨g,0,none⟩ = some v) (hu : P.underlying ty = some (.int k)) : (results fn tmps).run P w = .ok v w := by
 have hp' : tmps[p]?.getD undef = .pointer (some ⟨g,0,none⟩) := by simpa using hp
 have hagg : (isAgg ty).run P w = .ok false w := by
  unfold isAgg
  rw [Sem.run_bind,run_underlying hu w]
  rfl
 simp [results,h,hp',asAddr,loadVar,Sem.run_bind,hagg,hc]
def ae9 (m x y : Nat) : Bool := decide (x % 2 ^ m = y % 2 ^ m)
theorem aco {P : Program} (w : World) (e : TypeId) (k : IntKind) (d : Nat) (hp : P.plainKey e = true) (he : P.underlying e = some (.int k)) (b n x y : Nat) :
  ∀ is : List Nat,(∀ i ∈ is,i < n) → (Op.eqItems (d + 1) e 1 (ig k b n x) (ig k b n y) is).run P w = .ok (is.all fun i => decide (dgt b x i = dgt b y i)) w
 |[],_ => by simp [Op.eqItems]
 |i :: is,h => by
  have hi := h i (by simp)
  have h1 := run_part_plain w hp (show (ig k b n x)[i * 1]? = some (.int k (dgt b x i : Nat)) by rw [Nat.mul_one]; exact yt _ _ _ _ _ hi)
  have h2 := run_part_plain w hp (show (ig k b n y)[i * 1]? = some (.int k (dgt b y i : Nat)) by rw [Nat.mul_one]; exact yt _ _ _ _ _ hi)
  have h4 := aco w e k d hp he b n x y is fun j hj => h j (by simp [hj])
  have hall : (List.all (i :: is) fun i => decide (dgt b x i = dgt b y i)) = (decide (dgt b x i = dgt b y i) && List.all is fun i => decide (dgt b x i = dgt b y i)) := rfl
  rw [hall]
  generalize (List.all is fun i => decide (dgt b x i = dgt b y i)) = r at *
  generalize dgt b x i = u at *
  generalize dgt b y i = v at *
  have h3 : (Op.equalIn (d + 1) e (.int k (u : Int)) (.int k (v : Int))).run P w = .ok (decide (u = v)) w := by
   have e1 : ((u : Int) == (v : Int)) = decide (u = v) := by
    by_cases hq : u = v
    ·subst hq; simp
    ·have h5 : ¬ (u : Int) = (v : Int) := by omega
     rw [decide_eq_false hq]
     exact beq_false_of_ne h5
   rw [← e1]
   simp [Op.equalIn,Sem.run_bind,run_underlying he]
  simp only [Op.eqItems,Sem.run_bind,h1,h2,h3,Result.andThen_ok]
  by_cases hq : u = v
  ·simp [hq,h4]
  ·simp [hq]
theorem afs {P : Program} (w : World) (t e : TypeId) (k : IntKind) (b n : Nat) (i : TypeInfo) (hu : P.underlying t = some (.array n e)) (hi : P.info? e = some i) (hc : P.cellsOf e = 1) (hp : P.plainKey e = true) (he : P.underlying e = some (.int k)) (x y : Nat) :
  (binOp .eql t (.agg (ig k b n x)) (.agg (ig k b n y))).run P w = .ok (.bool (ae9 (b * n) x y)) w := by
 rw [run_eql_struct,run_equalIn_array w 9999 _ _ hu hi,hc,aco w e k 9998 hp he b n x y _ (fun j hj => List.mem_range.1 hj)]
 simp only [Result.andThen_ok]
 congr 2
 unfold ae9
 rw [Bool.eq_iff_iff]
 simp only [List.all_eq_true,List.mem_range,decide_eq_true_eq]
 constructor
 ·intro h
  exact ade b x y n h
 ·intro h j hj
  exact ac1 b x y n j hj h
theorem amx {P : Program} (w : World) (t e : TypeId) (k : IntKind) (b n : Nat) (i : TypeInfo) (hu : P.underlying t = some (.array n e)) (hi : P.info? e = some i) (hc : P.cellsOf e = 1) (hp : P.plainKey e = true) (he : P.underlying e = some (.int k)) (x y : Nat) :
  (binOp .neq t (.agg (ig k b n x)) (.agg (ig k b n y))).run P w = .ok (.bool (!ae9 (b * n) x y)) w := by
 have := afs w t e k b n i hu hi hc hp he x y
 simp only [binOp] at this ⊢
 cases hq : (Op.equal t (.agg (ig k b n x)) (.agg (ig k b n y))).run P w with
 |ok v w' => simp_all
 |halt x w' => simp_all
end Go.Proofs.YtohckefafbhooaaGreat
namespace Go.Proofs.YtohckefafbhooaaGreat
set_option linter.unusedVariables false
set_option linter.unusedSimpArgs false
def oz : Nat := 2 ^ 256
theorem ab8 : oz = 2 ^ (64 * 4) := rfl
theorem akk : 0 < oz := Nat.two_pow_pos 256
def afb (x y c : Nat) : Nat := (x + y + c) % 2 ^ 64
def alg (x y c : Nat) : Nat := (x + y + c) / 2 ^ 64
def alc (x y b : Nat) : Nat := (x + 2 ^ 64 - y - b) % 2 ^ 64
def ald (x y b : Nat) : Nat := if x < y + b then 1 else 0
def adi (x y : Nat) : Nat := x * y % 2 ^ 64
def ahz (x y : Nat) : Nat := x * y / 2 ^ 64
theorem aem (x y c : Nat) : afb x y c < 2 ^ 64 := Nat.mod_lt _ (Nat.two_pow_pos _)
theorem aq3 (x y c : Nat) : alc x y c < 2 ^ 64 := Nat.mod_lt _ (Nat.two_pow_pos _)
theorem aAl (x y : Nat) : adi x y < 2 ^ 64 := Nat.mod_lt _ (Nat.two_pow_pos _)
theorem azo (x y b : Nat) : ald x y b ≤ 1 := by unfold ald; split <;> omega
theorem aIz (P B r q : Nat) (h : r < P) : (r + P * q) % (P * B) = r + P * (q % B) := by
 rw [Nat.mod_mul,Nat.add_mul_mod_self_left,Nat.mod_eq_of_lt h,Nat.add_mul_div_left _ _ (by omega),Nat.div_eq_of_lt h,Nat.zero_add]
theorem aDb (P B r q : Nat) (h : r < P) : (r + P * q) / (P * B) = q / B := by
 rw [← Nat.div_div_eq_div_mul,Nat.add_mul_div_left _ _ (by omega),Nat.div_eq_of_lt h,Nat.zero_add]
theorem ab9 (i : Nat) : 2 ^ (64 * (i + 1)) = 2 ^ (64 * i) * 2 ^ 64 := by rw [← Nat.pow_add]; congr 1
def adT (a b i : Nat) : Nat := a % 2 ^ (64 * i) + b % 2 ^ (64 * i)
def adS (a b i : Nat) : Nat := adT a b i % 2 ^ (64 * i)
def adC (a b i : Nat) : Nat := adT a b i / 2 ^ (64 * i)
theorem ar1 (a b i : Nat) : adT a b (i + 1) = adS a b i + 2 ^ (64 * i) * (dgt 64 a i + dgt 64 b i + adC a b i) := by
 have h := Nat.mod_add_div (adT a b i) (2 ^ (64 * i))
 have e : adT a b (i + 1) = adT a b i + 2 ^ (64 * i) * (dgt 64 a i + dgt 64 b i) := by
  unfold adT
  rw [mod_succ,mod_succ,Nat.mul_add]
  omega
 rw [e,adS,adC,Nat.mul_add _ _ (adT a b i / _)]
 omega
theorem avn (a b i : Nat) : adS a b i < 2 ^ (64 * i) := Nat.mod_lt _ (Nat.two_pow_pos _)
theorem aBl (a b i : Nat) : adS a b (i + 1) = adS a b i + 2 ^ (64 * i) * afb (dgt 64 a i) (dgt 64 b i) (adC a b i) := by
 show adT a b (i + 1) % _ = _
 rw [ar1,ab9,aIz _ _ _ _ (avn a b i)]
 rfl
theorem aBo (a b i : Nat) : adC a b (i + 1) = alg (dgt 64 a i) (dgt 64 b i) (adC a b i) := by
 show adT a b (i + 1) / _ = _
 rw [ar1,ab9,aDb _ _ _ _ (avn a b i)]
 rfl
theorem aKo (a b i : Nat) : adC a b i ≤ 1 := by
 have h1 := Nat.mod_lt a (Nat.two_pow_pos (64 * i))
 have h2 := Nat.mod_lt b (Nat.two_pow_pos (64 * i))
 have : adT a b i < 2 ^ (64 * i) * 2 := by unfold adT; omega
 have := (Nat.div_lt_iff_lt_mul (Nat.two_pow_pos (64 * i))).2 (show adT a b i < 2 * 2 ^ (64 * i) by omega)
 unfold adC
 omega
theorem aBk (a b : Nat) : adS a b 0 = 0 := by simp [adS,Nat.mod_one]
theorem aBn (a b : Nat) : adC a b 0 = 0 := by simp [adC,adT,Nat.mod_one]
theorem aFq (a b : Nat) (ha : a < oz) (hb : b < oz) : adS a b 4 = (a + b) % oz := by
 unfold adS adT
 rw [← ab8,Nat.mod_eq_of_lt ha,Nat.mod_eq_of_lt hb]
theorem aFr (a b : Nat) (ha : a < oz) (hb : b < oz) : (adC a b 4 != 0) = decide (oz ≤ a + b) := by
 unfold adC adT
 rw [← ab8,Nat.mod_eq_of_lt ha,Nat.mod_eq_of_lt hb]
 by_cases h : oz ≤ a + b
 ·have : 0 < (a + b) / oz := Nat.div_pos h akk
  simp only [h,decide_true]
  exact bne_iff_ne.2 (by omega)
 ·rw [Nat.div_eq_of_lt (by omega)]
  simp [h]
def sbT (a b i : Nat) : Nat := a % 2 ^ (64 * i) + 2 ^ (64 * i) - b % 2 ^ (64 * i)
def sbS (a b i : Nat) : Nat := sbT a b i % 2 ^ (64 * i)
def sbC (a b i : Nat) : Nat := if a % 2 ^ (64 * i) < b % 2 ^ (64 * i) then 1 else 0
theorem avf (a b i : Nat) : sbS a b i < 2 ^ (64 * i) := Nat.mod_lt _ (Nat.two_pow_pos _)
theorem avg (a b i : Nat) : sbC a b i ≤ 1 := by unfold sbC; split <;> omega
theorem aIy (a b i : Nat) : a % 2 ^ (64 * i) + 2 ^ (64 * i) * sbC a b i = b % 2 ^ (64 * i) + sbS a b i := by
 have h1 := Nat.mod_lt a (Nat.two_pow_pos (64 * i))
 have h2 := Nat.mod_lt b (Nat.two_pow_pos (64 * i))
 unfold sbC sbS sbT
 generalize a % 2 ^ (64 * i) = x at *
 generalize b % 2 ^ (64 * i) = y at *
 generalize 2 ^ (64 * i) = P at *
 split
 ·rw [Nat.mod_eq_of_lt (by omega)]; omega
 ·rw [show x + P - y = x - y + P by omega,Nat.add_mod_right,Nat.mod_eq_of_lt (by omega)]; omega
theorem aDr (P x y s c s' c' : Nat) (h : x + P * c = y + s) (h' : x + P * c' = y + s') (hs : s < P) (hs' : s' < P) (hc : c ≤ 1) (hc' : c' ≤ 1) : s = s' ∧ c = c' := by
 have e0 : c = 0 ∨ c = 1 := by omega
 have e1 : c' = 0 ∨ c' = 1 := by omega
 rcases e0 with rfl | rfl <;> rcases e1 with rfl | rfl <;> simp at h h' ⊢ <;> omega
theorem sub_eq (x y b : Nat) (hx : x < 2 ^ 64) (hy : y < 2 ^ 64) (hb : b ≤ 1) : x + 2 ^ 64 * ald x y b = y + b + alc x y b := by
 unfold ald alc
 split <;> omega
theorem avw (a b i : Nat) : sbS a b (i + 1) = sbS a b i + 2 ^ (64 * i) * alc (dgt 64 a i) (dgt 64 b i) (sbC a b i) ∧ sbC a b (i + 1) = ald (dgt 64 a i) (dgt 64 b i) (sbC a b i) := by
 have h0 := aIy a b i
 have h1 := aIy a b (i + 1)
 have h2 := sub_eq (dgt 64 a i) (dgt 64 b i) (sbC a b i) (abf _ _ _) (abf _ _ _) (avg a b i)
 have h3 := aq3 (dgt 64 a i) (dgt 64 b i) (sbC a b i)
 have h4 := avf a b i
 refine aDr (2 ^ (64 * (i + 1))) (a % 2 ^ (64 * (i + 1))) (b % 2 ^ (64 * (i + 1))) _ _ _ _ h1 ?_ (avf _ _ _) ?_ (avg _ _ _) (azo _ _ _)
 ·rw [mod_succ,mod_succ,ab9]
  generalize dgt 64 a i = x at *
  generalize dgt 64 b i = y at *
  generalize sbC a b i = c at *
  generalize ald x y c = H at *
  generalize alc x y c = L at *
  have e : 2 ^ (64 * i) * (x + 2 ^ 64 * H) = 2 ^ (64 * i) * (y + c + L) := by rw [h2]
  rw [Nat.mul_add,Nat.mul_add,Nat.mul_add,← Nat.mul_assoc] at e
  omega
 ·rw [ab9]
  have : 2 ^ (64 * i) * (alc (dgt 64 a i) (dgt 64 b i) (sbC a b i) + 1) ≤ 2 ^ (64 * i) * 2 ^ 64 := Nat.mul_le_mul_left _ h3
  rw [Nat.mul_add] at this
  omega
theorem azx (a b : Nat) : sbS a b 0 = 0 := by simp [sbS,Nat.mod_one]
theorem azy (a b : Nat) : sbC a b 0 = 0 := by simp [sbC,Nat.mod_one]
theorem aDs (a b : Nat) (ha : a < oz) (hb : b < oz) : sbS a b 4 = (a + oz - b) % oz := by
 unfold sbS sbT
 rw [← ab8,Nat.mod_eq_of_lt ha,Nat.mod_eq_of_lt hb]
theorem aDt (a b : Nat) (ha : a < oz) (hb : b < oz) : (sbC a b 4 != 0) = decide (a < b) := by
 unfold sbC
 rw [← ab8,Nat.mod_eq_of_lt ha,Nat.mod_eq_of_lt hb]
 by_cases h : a < b <;> simp [h]
def mlT (a x i : Nat) : Nat := a % 2 ^ (64 * i) * x
def mlS (a x i : Nat) : Nat := mlT a x i % 2 ^ (64 * i)
def mlH (a x i : Nat) : Nat := mlT a x i / 2 ^ (64 * i)
theorem aqv (a x i : Nat) : mlS a x i < 2 ^ (64 * i) := Nat.mod_lt _ (Nat.two_pow_pos _)
theorem arh (a x i : Nat) : mlT a x (i + 1) = mlS a x i + 2 ^ (64 * i) * (dgt 64 a i * x + mlH a x i) := by
 have h := Nat.mod_add_div (mlT a x i) (2 ^ (64 * i))
 have e : mlT a x (i + 1) = mlT a x i + 2 ^ (64 * i) * (dgt 64 a i * x) := by
  unfold mlT
  rw [mod_succ,Nat.add_mul,Nat.mul_assoc]
 rw [e,mlS,mlH,Nat.mul_add]
 omega
theorem aJq (a x i : Nat) (hx : x < 2 ^ 64) : mlH a x i < 2 ^ 64 := by
 unfold mlH mlT
 rw [Nat.div_lt_iff_lt_mul (Nat.two_pow_pos _)]
 have h1 := Nat.mod_lt a (Nat.two_pow_pos (64 * i))
 calc a % 2 ^ (64 * i) * x ≤ a % 2 ^ (64 * i) * 2 ^ 64 := Nat.mul_le_mul_left _ (by omega)
  _ < 2 ^ (64 * i) * 2 ^ 64 := Nat.mul_lt_mul_of_pos_right h1 (Nat.two_pow_pos _)
  _ = 2 ^ 64 * 2 ^ (64 * i) := Nat.mul_comm _ _
theorem aoy (d x H : Nat) : afb (adi d x) H 0 = (d * x + H) % 2 ^ 64 ∧ ahz d x + alg (adi d x) H 0 = (d * x + H) / 2 ^ 64 := by
 unfold afb alg adi ahz
 generalize d * x = q
 omega
theorem ari (a x i : Nat) : mlS a x (i + 1) = mlS a x i + 2 ^ (64 * i) * afb (adi (dgt 64 a i) x) (mlH a x i) 0 := by
 show mlT a x (i + 1) % _ = _
 rw [arh,ab9,aIz _ _ _ _ (aqv a x i),(aoy _ _ _).1]
theorem ark (a x i : Nat) : mlH a x (i + 1) = ahz (dgt 64 a i) x + alg (adi (dgt 64 a i) x) (mlH a x i) 0 := by
 show mlT a x (i + 1) / _ = _
 rw [arh,ab9,aDb _ _ _ _ (aqv a x i),(aoy _ _ _).2]
theorem aAp (a x : Nat) : mlS a x 0 = 0 := by simp [mlS,Nat.mod_one]
theorem arj (a x : Nat) : mlH a x 0 = 0 := by simp [mlH,mlT,Nat.mod_one]
theorem aEe (a x : Nat) (ha : a < oz) : mlS a x 4 = a * x % oz := by
 unfold mlS mlT
 rw [← ab8,Nat.mod_eq_of_lt ha]
theorem aEg (a x : Nat) (ha : a < oz) : (mlH a x 4 != 0) = decide (oz ≤ a * x) := by
 unfold mlH mlT
 rw [← ab8,Nat.mod_eq_of_lt ha]
 by_cases h : oz ≤ a * x
 ·have : 0 < (a * x) / oz := Nat.div_pos h akk
  simp only [h,decide_true]
  exact bne_iff_ne.2 (by omega)
 ·rw [Nat.div_eq_of_lt (by omega)]
  simp [h]
end Go.Proofs.YtohckefafbhooaaGreat
namespace Go.Proofs.YtohckefafbhooaaGreat
set_option linter.unusedVariables false
set_option linter.unusedSimpArgs false
open Go.RowKit Go.Shelf
end Go.Proofs.YtohckefafbhooaaGreat
namespace Go.Proofs.YtohckefafbhooaaGreat
set_option linter.unusedVariables false
set_option linter.unusedSimpArgs false
open Go.RowKit Go.Shelf
variable {F : Fence} {n : Nat} {P : Program}
def SeqJ {α : Type} (F : Fence) (n : Nat) (P : Program) (gf : Nat) (lb : Array Value) (encs : α → Array Value) (C : List α → World → Prop) (Nx : List α → α → Prop) (S : List α → Prop) : Prop :=
 ∀ (l : Nat) (J Jx : List α → World → Prop) (W : World),(∀ pre W',J pre W' → C pre W') →
  (∀ pre x W1,J pre W1 → Nx pre x → YieldAt F (n - 1) P l (encs x) W1 fun e W' => (e = .returned (.bool true) ∧ J (pre ++ [x]) W') ∨ (e = .returned (.bool false) ∧ Jx (pre ++ [x]) W')) →
  J [] W →
  CallsIn F n P gf (#[.func (.yield l) #[] #[]] ++ lb) W fun e W' => (∃ v,e = .returned v) ∧ ((∃ xs,S xs ∧ J xs W') ∨ (∃ pre,Jx pre W'))
abbrev KT : World → World → Prop := fun _ _ => True
theorem aep {α : Type} {g : Operand} {ps : Array Tmp} {assign body : Code} {Q : Exit → Act → World → Prop} {a : Act} {w : World}
  (hro : F.round = none) (h1 : 1 ≤ n) {gf : Nat} {lb : Array Value} (hg : a.eval g = .func (.func gf) #[] lb) (hFg : F.fn gf) (eg : ∀ args w,(callFunc gf args).run P w = .ok (.enter gf args) w)
  {encs : α → Array Value} {C : List α → World → Prop} {Nx : List α → α → Prop} {S : List α → Prop} (hseq : SeqJ F (n - 1) P gf lb encs C Nx S) (hps : ∀ x,(encs x).size = ps.size)
  (I : List α → World → Prop) (Ix : Code → List α → World → Prop) (hI : OwnFrom w.heap.size I) (hIx : ∀ c,OwnFrom w.heap.size (Ix c)) (hIC : ∀ pre W,I pre W → C pre W) (h0 : I [] w) (a₁ : α → Act)
  (hassign : ∀ (l : Nat) (x : α) (W : World) (K : Act → World → Prop),K (a₁ x) W →
   assign.wpIn (F.inRound l) (n - 1 - 1) P (Exit.then K (fun _ _ _ => False)) { tmps := (ps.zip (encs x)).foldl (fun t (p,v) => t.setIfInBounds p v) a.tmps,defers := [] } W)
  (hbody : ∀ (l : Nat) (pre : List α) (x : α) (W : World),I pre W → Nx pre x → body.wpIn (F.inRound l) (n - 1 - 1) P (ownPostG w.heap.size KT I Ix (pre ++ [x]) W) (a₁ x) W)
  (hdone : ∀ (D : Nat) (xs : List α) (W : World),w.heap.size ≤ D → S xs → I xs W → W.heap[D]? = some (.deferred (some [])) → Q .normal { a with defers := { target := .collected D,args := #[] } :: a.defers } W)
  (hstop : ∀ (D : Nat) (c : Code) (pre : List α) (W : World),w.heap.size ≤ D → Ix c pre W → W.heap[D]? = some (.deferred (some [])) → c.wpIn F n P Q { a with defers := { target := .collected D,args := #[] } :: a.defers } W) :
  (Code.rangeFunc g ps assign body).wpIn F n P Q a w := by
 refine wpIn_rangeFunc fun fn hfn => ?_
 rw [hro]
 generalize hB : w.heap.size = B at *
 obtain ⟨R,hR⟩ : ∃ R : LoopState → Option Code → Obj,R = fun st pe => .loop { state := st,pending := pe,fn,tmps := a.tmps,params := ps,assign,body,defers := B } := ⟨_,rfl⟩
 obtain ⟨V,hV⟩ : ∃ V,V = (w.alloc (.deferred (some []))).alloc (R .ready none) := ⟨_,rfl⟩
 have hVl : V.heap[B + 1]? = some (R .ready none) := by
  rw [hV,← hB]; have := World.alloc_heap_new (w.alloc (.deferred (some []))) (R .ready none); rwa [World.size_alloc] at this
 have hVd : V.heap[B]? = some (.deferred (some [])) := by
  rw [hV,← hB]; exact (Below.heap_alloc _ _ _ (by simp)).trans (World.alloc_heap_new w _)
 refine ⟨B + 1,[{ target := .collected B,args := #[] }],V,{ target := .fn (.func gf) lb,args := #[.func (.yield (B + 1)) #[] #[]] },V,gf,#[.func (.yield (B + 1)) #[] #[]] ++ lb,V,?_,?_,?_,?_,fun _ => h1,?_⟩
 ·rw [hV,hR,← hB]; exact run_enterLoop_outer _ _ _ _ _
 ·simp only [resolve,hg]
  simp [go_sem]
 ·intro f' hf'
  simp [Target.leads] at hf'
  subst hf'
  exact hFg
 ·simp [invoke,go_sem,eg]
 ·refine (hseq (B + 1) (fun pre W => I pre W ∧ W.heap[B + 1]? = some (R .ready none) ∧ W.heap[B]? = some (.deferred (some [])))
   (fun pre W => ∃ c,Ix c pre W ∧ W.heap[B + 1]? = some (R .done (some c)) ∧ W.heap[B]? = some (.deferred (some []))) V (fun pre W' h => hIC pre W' h.1) ?_ ⟨by rw [hV]; exact hI.alloc _ (hI.alloc _ h0),hVl,hVd⟩).mono ?_
  ·rintro pre x W ⟨hi,hl,hk⟩ hnx
   have hlt : B + 1 < W.heap.size := (Array.getElem?_eq_some_iff.1 hl).1
   rw [hR] at hl
   have hy := run_yield (P := P) (args := encs x) hl (hps x)
   refine ⟨fn,_,assign,body,hy,roundIn_of_wpIn hfn (hassign _ x W _ ⟨_,run_beginRound hl rfl,?_⟩)⟩
   obtain ⟨bz,hbz⟩ : ∃ bz : Loop,bz = { state := .busy,pending := none,fn,tmps := a.tmps,params := ps,assign,body,defers := B } := ⟨_,rfl⟩
   have hl2 : (W.putObj (B + 1) (.loop bz)).heap[B + 1]? = some (.loop bz) := World.putObj_heap_same hlt
   have hk2 : (W.putObj (B + 1) (.loop bz)).heap[B]? = some (.deferred (some [])) := (World.putObj_heap_other (by omega)).trans hk
   rw [← hbz]
   refine wpIn_mono (hbody _ pre x _ (hI.putObj _ hi (by omega) hl rfl) hnx) ?_
   have fin : ∀ (j : Option Code) (U : World),KeepsFrom B (W.putObj (B + 1) (.loop bz)) U → U.heap[B + 1]? = some (.loop bz) ∧
     (Instr.endRound (B + 1) j).run P U = .ok (.bool j.isNone) (U.putObj (B + 1) (R (if j.isNone then .ready else .done) j)) ∧
     (U.putObj (B + 1) (R (if j.isNone then .ready else .done) j)).heap[B + 1]? = some (R (if j.isNone then .ready else .done) j) ∧
     (U.putObj (B + 1) (R (if j.isNone then .ready else .done) j)).heap[B]? = some (.deferred (some [])) := fun j U hk3 => by
    have hl3 := hk3.same _ _ (by omega) hl2 rfl
    refine ⟨hl3,?_,World.putObj_heap_same (Array.getElem?_eq_some_iff.1 hl3).1,(World.putObj_heap_other (by omega)).trans (hk3.same _ _ (Nat.le_refl _) hk2 rfl)⟩
    have := run_endRound (P := P) j hl3
    rw [hbz] at this
    rw [hR]
    exact this
   rintro e a3 U hp
   cases e with
   |normal =>
    obtain ⟨hl3,hr,hl4,hk4⟩ := fin none U hp.1
    exact ⟨_,_,hr,.inl ⟨rfl,hI.putObj _ hp.2.2 (by omega) hl3 rfl,hl4,hk4⟩⟩
   |ret =>
    obtain ⟨hl3,hr,hl4,hk4⟩ := fin (some .ret) U hp.1
    exact ⟨_,_,hr,.inr ⟨rfl,.ret,(hIx _).putObj _ hp.2 (by omega) hl3 rfl,hl4,hk4⟩⟩
   |exit id =>
    obtain ⟨hl3,hr,hl4,hk4⟩ := fin (some (.exit id)) U hp.1
    exact ⟨_,_,hr,.inr ⟨rfl,.exit id,(hIx _).putObj _ hp.2 (by omega) hl3 rfl,hl4,hk4⟩⟩
   |goto t =>
    obtain ⟨hl3,hr,hl4,hk4⟩ := fin (some (.goto t)) U hp.1
    exact ⟨_,_,hr,.inr ⟨rfl,.goto t,(hIx _).putObj _ hp.2 (by omega) hl3 rfl,hl4,hk4⟩⟩
   |panic ch => exact hp.elim
   |outgrown => exact hp.elim
  ·rintro e U ⟨⟨v,rfl⟩,(⟨xs,hS,hi,hl,hk⟩ | ⟨pre,c,hi,hl,hk⟩)⟩
   ·rw [hR] at hl
    exact ⟨none,_,run_endLoop (P := P) hl (by simp),hdone _ xs _ (Nat.le_refl _) hS (hI.putObj _ hi (by omega) hl rfl) ((World.putObj_heap_other (by omega)).trans hk)⟩
   ·rw [hR] at hl
    exact ⟨some c,_,run_endLoop (P := P) hl (by simp),hstop _ c pre _ (Nat.le_refl _) ((hIx c).putObj _ hi (by omega) hl rfl) ((World.putObj_heap_other (by omega)).trans hk)⟩
theorem qh {β : Type} (B g : Nat) (c : β → Array Value) (t : TypeId) (f : Nat × Nat) : OwnFrom B (fun (s : β) W => W.heap[g]? = some (.cells (c s) t f)) :=
 fun s A D row hs hg hr => (grownBy_keeps_cells hg (fun r e => (hr r e).2) hs rfl).trans hs
theorem yu {β : Type} (B : Nat) (p : β → Prop) : OwnFrom B (fun (s : β) (_ : World) => p s) := fun s A D row hs _ _ => hs
theorem own_below {β : Type} (B n : Nat) (w : World) (h : w.heap.size ≤ B) (hn : n ≤ w.heap.size) : OwnFrom B (fun (_ : β) W => Below n w W) := ownFrom_below hn (by omega)
end Go.Proofs.YtohckefafbhooaaGreat
namespace Go.Proofs.YtohckefafbhooaaGreat
set_option linter.unusedVariables false
set_option linter.unusedSimpArgs false
open Go.RowKit Go.Shelf
attribute [local go_sem] Oper.semAt_some
def bt (v : List (Nat × Nat) → Nat) (N : Nat) : Nat → List (Nat × Nat)
 |0 => []
 |k + 1 => bt v N k ++ [(N - 1 - k,v (bt v N k))]
theorem aah (v : List (Nat × Nat) → Nat) (N : Nat) : ∀ k,(bt v N k).length = k
 |0 => rfl
 |k + 1 => by simp [bt,aah v N k]
def nextU (v : List (Nat × Nat) → Nat) (N : Nat) (pre : List (Nat × Nat)) (x : Nat × Nat) : Prop := pre.length < N ∧ x = (N - 1 - pre.length,v pre) ∧ pre = bt v N pre.length
abbrev encU (x : Nat × Nat) : Array Value := #[.int .i64 (x.1 : Int),.int .u64 (x.2 : Int)]
def seesU (v : List (Nat × Nat) → Nat) (N Bx b off cap : Nat) (pre : List (Nat × Nat)) (W : World) : Prop :=
 W.cell? ⟨Bx,0,none⟩ = some (.slice (some ⟨b,off,none⟩) N cap) ∧ (pre.length < N → W.cell? ⟨b,off + (N - 1 - pre.length),none⟩ = some (.int .u64 (v pre : Nat)))
theorem adh (F : Fence) (n : Nat) (hF : F.fn 144) (hro : F.round = none) (hn : 1 ≤ n) (v : List (Nat × Nat) → Nat) (N Bx b off cap : Nat) (hN : N ≤ 140737488355328) :
  SeqJ F n Tryz.prog 144 #[.pointer (some ⟨Bx,0,none⟩)] encU (seesU v N Bx b off cap) (nextU v N) (fun xs => xs = bt v N N) := by
 intro l J Jx W hC hY h0
 refine callsIn_of_wp Tryz.func144 rfl hF ?_ hro
 simp only [Tryz.ntmps144,List.size_toArray,List.length_cons,List.length_nil,Nat.reduceAdd,Nat.reduceSub,Array.replicate_succ,Array.replicate_zero,List.push_toArray,List.append_toArray,List.nil_append,List.cons_append]
 have hbox := (hC _ _ h0).1
 gi_wp2
 gi_loopw [3] (fun i wr => ∃ k : Nat,k ≤ N ∧ i = .int .i64 ((N : Int) - 1 - k) ∧ J (bt v N k) wr) (fun i _ => (intOf i + 1).toNat)
 case atStart => exact ⟨0,Nat.zero_le _,by simp,h0⟩
 case round =>
  clear hbox
  obtain ⟨k,hk,rfl,hJs⟩ := hrel
  obtain ⟨hbox,hcx⟩ := hC _ _ hJs
  rw [aah] at hcx
  by_cases hlt : k < N
  ·replace hcx := hcx hlt
   obtain ⟨fn,tmps,assign,body,hy,hR⟩ := hY _ (N - 1 - k,v (bt v N k)) wr hJs ⟨by rw [aah]; exact hlt,by rw [aah],by rw [aah]⟩
   dsimp only [encU] at hy
   have e1 : ((N - 1 - k : Nat) : Int) = (N : Int) - 1 - k := by omega
   rw [e1] at hy
   clear e1
   gi_wp2
   refine hR.mono ?_
   rintro e W3 (⟨rfl,hJ3⟩ | ⟨rfl,hJx3⟩)
   ·gi_wp2
    go_roundw
    case rel => exact ⟨k + 1,by omega,by go_num,hJ3⟩
    case measure => simp [intOf]; omega
   ·gi_wp2
    refine bodyPost_ret (results_none rfl _ _ _) rfl ?_
    exact ⟨⟨_,rfl⟩,.inr ⟨_,hJx3⟩⟩
  ·obtain rfl : k = N := by omega
   gi_wp2
   go_end0
   exact ⟨⟨_,rfl⟩,.inl ⟨_,rfl,hJs⟩⟩
theorem agh (F : Fence) (n : Nat) (hF : F.fn 124) (hro : F.round = none) (a : Option Addr) (len cap : Nat) (w : World) :
  CallsIn F n Tryz.prog 124 #[.slice a len cap] w fun e w' => e = .returned (.func (.func 144) #[] #[.pointer (some ⟨w.heap.size,0,none⟩)]) ∧ w' = w.alloc (.cells #[.slice a len cap] 172) := by
 refine callsIn_of_wp Tryz.func124 rfl hF ?_ hro
 simp only [Tryz.ntmps124,List.size_toArray,List.length_cons,List.length_nil,Nat.reduceAdd,Nat.reduceSub,Array.replicate_succ,Array.replicate_zero,List.push_toArray,List.append_toArray,List.nil_append,List.cons_append]
 gi_wp2
 go_ret
 exact ⟨rfl,rfl⟩
end Go.Proofs.YtohckefafbhooaaGreat
namespace Go.Proofs.YtohckefafbhooaaGreat
set_option linter.unusedVariables false
set_option linter.unusedSimpArgs false
structure aee (y1 y0 u d q r : Nat) : Prop where
 eq : u = q * y1 + r
 ge : (u * 4294967296 + d) / (y1 * 4294967296 + y0) ≤ q
theorem avm {y u d : Nat} (hy : 0 < y) (hu : u < y) (hd : d < 4294967296) : (u * 4294967296 + d) / y < 4294967296 := by
 rw [Nat.div_lt_iff_lt_mul hy]
 have : (u + 1) * 4294967296 ≤ y * 4294967296 := Nat.mul_le_mul_right _ hu
 rw [Nat.add_mul] at this
 rw [Nat.mul_comm 4294967296 y]
 omega
theorem ahl {y1 y0 u d : Nat} (h1 : 0 < y1) (h0 : y0 < 4294967296) (hd : d < 4294967296) : aee y1 y0 u d (u / y1) (u % y1) := by
 refine ⟨?_,?_⟩
 ·have := Nat.mod_add_div u y1
  rw [Nat.mul_comm (u / y1)]
  omega
 ·have hY : 0 < y1 * 4294967296 + y0 := by omega
  generalize hq : (u * 4294967296 + d) / (y1 * 4294967296 + y0) = q
  have h2 : q * (y1 * 4294967296 + y0) ≤ u * 4294967296 + d := by rw [← hq]; exact Nat.div_mul_le_self _ _
  rw [Nat.le_div_iff_mul_le h1]
  rw [Nat.mul_add,← Nat.mul_assoc] at h2
  generalize q * y1 = z at *
  generalize q * y0 = t at *
  omega
theorem afi {y1 y0 u d q r : Nat} (g : aee y1 y0 u d q r) : (q * y0 > r * 4294967296 + d) ↔ q * (y1 * 4294967296 + y0) > u * 4294967296 + d := by
 rw [g.eq,Nat.mul_add,← Nat.mul_assoc,Nat.add_mul]
 generalize q * y1 = z
 generalize q * y0 = t
 omega
theorem afj {y1 y0 u d q r : Nat} (hY : 0 < y1 * 4294967296 + y0) (g : aee y1 y0 u d q r) (h : q * (y1 * 4294967296 + y0) > u * 4294967296 + d) : 0 < q ∧ aee y1 y0 u d (q - 1) (r + y1) := by
 have hlt : (u * 4294967296 + d) / (y1 * 4294967296 + y0) < q := by rw [Nat.div_lt_iff_lt_mul hY]; omega
 refine ⟨Nat.lt_of_le_of_lt (Nat.zero_le _) hlt,?_,Nat.le_sub_one_of_lt hlt⟩
 have hq0 : 0 < q := Nat.lt_of_le_of_lt (Nat.zero_le _) hlt
 clear hlt
 obtain ⟨k,rfl⟩ : ∃ k,q = k + 1 := ⟨q - 1,by omega⟩
 rw [Nat.add_sub_cancel,g.eq,Nat.add_mul]
 omega
theorem amc {y1 y0 u d q r : Nat} (hY : 0 < y1 * 4294967296 + y0) (hu : u < y1 * 4294967296 + y0) (hd : d < 4294967296) (g : aee y1 y0 u d q r) (h : 4294967296 ≤ q) : 0 < q ∧ aee y1 y0 u d (q - 1) (r + y1) := by
 have hq := avm hY hu hd
 refine afj hY g ?_
 have : (u * 4294967296 + d) / (y1 * 4294967296 + y0) < q := Nat.lt_of_lt_of_le hq h
 rw [Nat.div_lt_iff_lt_mul hY] at this
 exact this
theorem ag3 {y1 y0 u d q r : Nat} (hY : 0 < y1 * 4294967296 + y0) (g : aee y1 y0 u d q r) (h : ¬ q * (y1 * 4294967296 + y0) > u * 4294967296 + d) : q = (u * 4294967296 + d) / (y1 * 4294967296 + y0) := by
 refine Nat.le_antisymm ?_ g.ge
 rw [Nat.le_div_iff_mul_le hY]
 omega
theorem aja {y1 y0 u d q r : Nat} (hY : 0 < y1 * 4294967296 + y0) (h0 : y0 < 4294967296) (hq : q ≤ 4294967296) (g : aee y1 y0 u d q r) (h : 4294967296 ≤ r) : q = (u * 4294967296 + d) / (y1 * 4294967296 + y0) := by
 refine ag3 hY g ?_
 rw [← afi g]
 have h1 : q * y0 ≤ 4294967296 * y0 := Nat.mul_le_mul_right _ hq
 omega
theorem ahk {y1 y0 u : Nat} (h1 : 2147483648 ≤ y1) (h0 : y0 < 4294967296) (hu : u < y1 * 4294967296 + y0) : u / y1 ≤ 4294967297 := by
 have : u / y1 < 4294967298 := by
  rw [Nat.div_lt_iff_lt_mul (by omega)]
  omega
 omega
theorem ase (u v1 v0 y : Nat) (hy : 0 < y) : (u * 18446744073709551616 + (v1 * 4294967296 + v0)) / y = (u * 4294967296 + v1) / y * 4294967296 + ((u * 4294967296 + v1) % y * 4294967296 + v0) / y ∧
  (u * 18446744073709551616 + (v1 * 4294967296 + v0)) % y = ((u * 4294967296 + v1) % y * 4294967296 + v0) % y := by
 have e : u * 18446744073709551616 + (v1 * 4294967296 + v0) = ((u * 4294967296 + v1) % y * 4294967296 + v0) + y * ((u * 4294967296 + v1) / y * 4294967296) := by
  have h := Nat.mod_add_div (u * 4294967296 + v1) y
  generalize (u * 4294967296 + v1) / y = q at *
  generalize (u * 4294967296 + v1) % y = r at *
  rw [← Nat.mul_assoc]
  generalize y * q = z at *
  omega
 rw [e,Nat.add_mul_div_left _ _ hy,Nat.add_mul_mod_self_left]
 exact ⟨Nat.add_comm _ _,rfl⟩
theorem ag9 (n y s : Nat) : n * 2 ^ s / (y * 2 ^ s) = n / y ∧ n * 2 ^ s % (y * 2 ^ s) / 2 ^ s = n % y := by
 have hp := Nat.two_pow_pos s
 refine ⟨Nat.mul_div_mul_right _ _ hp,?_⟩
 rw [Nat.mul_mod_mul_right,Nat.mul_div_cancel _ hp]
theorem aAj {hi lo y s Y U V : Nat} (hlt : hi < y) (hs : s ≤ 64) (hY : Y = y * 2 ^ s) (hU : U = hi * 2 ^ s + lo / 2 ^ (64 - s)) (hV : V = lo * 2 ^ s % 2 ^ 64) (hlo : lo < 2 ^ 64) :
  U < Y ∧ (hi * 18446744073709551616 + lo) * 2 ^ s = U * 18446744073709551616 + V ∧ lo / 2 ^ (64 - s) < 2 ^ s := by
 have ps : (2 : Nat) ^ 64 = 2 ^ (64 - s) * 2 ^ s := by rw [← Nat.pow_add]; congr 1; omega
 have hl : lo / 2 ^ (64 - s) < 2 ^ s := by
  rw [Nat.div_lt_iff_lt_mul (Nat.two_pow_pos _),Nat.mul_comm,← ps]
  exact hlo
 refine ⟨?_,?_,hl⟩
 ·have h1 : (hi + 1) * 2 ^ s ≤ y * 2 ^ s := Nat.mul_le_mul_right _ hlt
  rw [Nat.add_mul] at h1
  omega
 ·have h1 := Nat.mod_add_div (lo * 2 ^ s) (2 ^ 64)
  have h2 : lo * 2 ^ s / 2 ^ 64 = lo / 2 ^ (64 - s) := by rw [ps,Nat.mul_div_mul_right _ _ (Nat.two_pow_pos _)]
  rw [h2,← hV] at h1
  rw [hU,Nat.add_mul,Nat.add_mul,← h1]
  generalize lo / 2 ^ (64 - s) = z
  have : hi * 18446744073709551616 * 2 ^ s = hi * 2 ^ s * 18446744073709551616 := by rw [Nat.mul_right_comm]
  omega
theorem arv {u d y q : Nat} (hy : y < 18446744073709551616) (h0 : 0 < y) (hd : d < 4294967296) (hq : q = (u * 4294967296 + d) / y) :
  (((u : Int) * 4294967296 % 18446744073709551616 + d) % 18446744073709551616 - (q : Int) * y % 18446744073709551616) % 18446744073709551616 = (((u * 4294967296 + d) % y : Nat) : Int) := by
 have h := Nat.mod_add_div (u * 4294967296 + d) y
 have hl := Nat.mod_lt (u * 4294967296 + d) h0
 rw [← hq] at h
 generalize (u * 4294967296 + d) % y = r at *
 have e : (q : Int) * y = ((y * q : Nat) : Int) := by rw [Int.natCast_mul,Int.mul_comm]
 rw [e]
 generalize y * q = z at *
 omega
end Go.Proofs.YtohckefafbhooaaGreat
namespace Go.Proofs.YtohckefafbhooaaGreat
set_option linter.unusedVariables false
set_option linter.unusedSimpArgs false
def pw (i : Nat) : Nat := 2 ^ (16 * i)
theorem abp (i : Nat) : 0 < pw i := Nat.two_pow_pos _
theorem acv : pw 0 = 1 := rfl
theorem agt (i : Nat) : pw (i + 1) = pw i * 65536 := by
 unfold pw
 rw [show (65536 : Nat) = 2 ^ 16 from rfl,← Nat.pow_add]; congr 1
theorem aqt (i j : Nat) : pw (i + j) = pw i * pw j := by
 unfold pw
 rw [← Nat.pow_add]; congr 1; omega
theorem aed {i j : Nat} (h : i ≤ j) : pw i ≤ pw j := Nat.pow_le_pow_right (by omega) (by omega)
theorem pw_lt {i j : Nat} (h : pw i < pw j) : i < j := by
 refine Nat.lt_of_not_le fun hl => ?_
 have := aed hl
 omega
theorem agm (x i : Nat) : dgt 16 x i = x / pw i % 65536 := rfl
theorem aa1 (x i : Nat) : dgt 16 x i < 65536 := abf 16 x i
theorem adz (x i : Nat) : x % pw (i + 1) = x % pw i + pw i * dgt 16 x i := mod_succ 16 x i
theorem ajw (x i : Nat) : x / pw i = 65536 * (x / pw (i + 1)) + dgt 16 x i := by
 rw [agt,← Nat.div_div_eq_div_mul,agm]
 omega
def caC (x y i : Nat) : Nat := (x % pw i + y % pw i) / pw i
theorem aA9 (x y : Nat) : caC x y 0 = 0 := by simp [caC,acv,Nat.mod_one]
theorem aKm (x y i : Nat) : caC x y i ≤ 1 := by
 have h1 := Nat.mod_lt x (abp i)
 have h2 := Nat.mod_lt y (abp i)
 have := (Nat.div_lt_iff_lt_mul (abp i)).2 (show x % pw i + y % pw i < 2 * pw i by omega)
 unfold caC
 omega
theorem aFh (x y i : Nat) : (caC x y i + dgt 16 x i + dgt 16 y i) % 65536 = dgt 16 (x + y) i ∧ (caC x y i + dgt 16 x i + dgt 16 y i) / 65536 = caC x y (i + 1) := by
 have hm := Nat.mod_add_div (x % pw i + y % pw i) (pw i)
 have hr := Nat.mod_lt (x % pw i + y % pw i) (abp i)
 have hx := Nat.mod_add_div x (pw i)
 have hy := Nat.mod_add_div y (pw i)
 have hp := abp i
 constructor
 ·have e : x + y = (x % pw i + y % pw i) % pw i + pw i * (x / pw i + y / pw i + caC x y i) := by
   unfold caC
   rw [Nat.mul_add,Nat.mul_add]
   omega
  rw [agm (x + y),e,Nat.add_mul_div_left _ _ hp,Nat.div_eq_of_lt hr,agm,agm]
  omega
 ·have e : x % pw (i + 1) + y % pw (i + 1) = (x % pw i + y % pw i) % pw i + pw i * (caC x y i + dgt 16 x i + dgt 16 y i) := by
   rw [adz,adz]
   unfold caC
   rw [Nat.mul_add,Nat.mul_add]
   omega
  show _ = (x % pw (i + 1) + y % pw (i + 1)) / pw (i + 1)
  rw [e,agt,aDb _ _ _ _ hr]
theorem aKl {x y i : Nat} (hx : x < pw i) (hy : y < pw i) (h : caC x y i = 0) : x + y < pw i := by
 unfold caC at h
 rw [Nat.mod_eq_of_lt hx,Nat.mod_eq_of_lt hy] at h
 rcases Nat.lt_or_ge (x + y) (pw i) with h1 | h1
 ·exact h1
 ·have := Nat.div_pos h1 (abp i); omega
def bwC (x y i : Nat) : Nat := if x % pw i < y % pw i then 1 else 0
theorem aBa (x y : Nat) : bwC x y 0 = 0 := by simp [bwC,acv,Nat.mod_one]
theorem aB9 (x y i : Nat) : bwC x y i ≤ 1 := by unfold bwC; split <;> omega
theorem aFj (x y i : Nat) (h : y ≤ x) : (65536 + dgt 16 x i - dgt 16 y i - bwC x y i) % 65536 = dgt 16 (x - y) i ∧ 1 - (65536 + dgt 16 x i - dgt 16 y i - bwC x y i) / 65536 = bwC x y (i + 1) := by
 have hx := Nat.mod_add_div x (pw i)
 have hy := Nat.mod_add_div y (pw i)
 have hxr := Nat.mod_lt x (abp i)
 have hyr := Nat.mod_lt y (abp i)
 have hp := abp i
 have l1 := aa1 x i
 have l2 := aa1 y i
 have hb : ∃ s,s < pw i ∧ x % pw i + pw i * bwC x y i = y % pw i + s := by
  unfold bwC
  split
  ·exact ⟨x % pw i + pw i - y % pw i,by omega,by omega⟩
  ·exact ⟨x % pw i - y % pw i,by omega,by omega⟩
 obtain ⟨s,hs,hbs⟩ := hb
 have hle := aB9 x y i
 constructor
 ·have hq : y / pw i + bwC x y i ≤ x / pw i := by
   refine Nat.le_of_not_lt fun hlt => ?_
   have := Nat.mul_le_mul_left (pw i) (show x / pw i + 1 ≤ y / pw i + bwC x y i from hlt)
   rw [Nat.mul_add,Nat.mul_add] at this
   omega
  have e : x - y = s + pw i * (x / pw i - y / pw i - bwC x y i) := by
   rw [Nat.mul_sub,Nat.mul_sub]
   have := Nat.mul_le_mul_left (pw i) hq
   rw [Nat.mul_add] at this
   omega
  rw [agm (x - y),e,Nat.add_mul_div_left _ _ hp,Nat.div_eq_of_lt hs,agm,agm]
  omega
 ·rw [show bwC x y (i + 1) = if x % pw (i + 1) < y % pw (i + 1) then 1 else 0 from rfl,adz,adz]
  rcases Nat.lt_or_ge (dgt 16 x i) (dgt 16 y i + bwC x y i) with h1 | h1
  ·have := Nat.mul_le_mul_left (pw i) (show dgt 16 x i + 1 ≤ dgt 16 y i + bwC x y i from h1)
   rw [Nat.mul_add,Nat.mul_add] at this
   rw [if_pos (by omega)]
   omega
  ·have := Nat.mul_le_mul_left (pw i) h1
   rw [Nat.mul_add] at this
   rw [if_neg (by omega)]
   omega
theorem aDw (V j r : Nat) : ae5 16 V j r + pw j * dgt 16 V j = V + pw j * r := by
 have h1 := Nat.mod_add_div V (pw j)
 have h2 := ajw V j
 rw [h2,Nat.mul_add] at h1
 have e : ae5 16 V j r = V % pw j + pw j * (r + 65536 * (V / pw (j + 1))) := rfl
 rw [e,Nat.mul_add]
 omega
def mlP (x y i d k : Nat) : Nat := x % pw i * y + d * (y % pw k) * pw i
theorem aAq (x y i d : Nat) : mlP x y i d 0 = x % pw i * y := by simp [mlP,acv,Nat.mod_one]
theorem aAr (x y i d k : Nat) : mlP x y i d (k + 1) = mlP x y i d k + pw (i + k) * (d * dgt 16 y k) := by
 unfold mlP
 rw [adz,aqt,Nat.mul_add,Nat.add_mul,Nat.add_assoc]
 congr 2
 ac_rfl
theorem av5 (x y i k : Nat) (h : y < pw k) : mlP x y i (dgt 16 x i) k = x % pw (i + 1) * y := by
 unfold mlP
 rw [adz,Nat.mod_eq_of_lt h,Nat.add_mul]
 congr 1
 ac_rfl
theorem aAo (x y i d k V c : Nat) (h : V + pw (i + k) * c = mlP x y i d k) :
  ae5 16 V (i + k) ((c + dgt 16 V (i + k) + d * dgt 16 y k) % 65536) + pw (i + k + 1) * ((c + dgt 16 V (i + k) + d * dgt 16 y k) / 65536) = mlP x y i d (k + 1) := by
 have h1 := aDw V (i + k) ((c + dgt 16 V (i + k) + d * dgt 16 y k) % 65536)
 rw [aAr,← h,agt,Nat.mul_assoc]
 have h2 := Nat.mod_add_div (c + dgt 16 V (i + k) + d * dgt 16 y k) 65536
 generalize hs : c + dgt 16 V (i + k) + d * dgt 16 y k = s at *
 have h3 : pw (i + k) * (s % 65536) + pw (i + k) * (65536 * (s / 65536)) = pw (i + k) * c + pw (i + k) * dgt 16 V (i + k) + pw (i + k) * (d * dgt 16 y k) := by
  rw [← Nat.mul_add,h2,← hs,Nat.mul_add,Nat.mul_add]
 omega
theorem ml_lt {c o d e : Nat} (hc : c < 65536) (ho : o < 65536) (hd : d < 65536) (he : e < 65536) : c + o + d * e < 4294967296 := by
 have := Nat.mul_le_mul (show d ≤ 65535 by omega) (show e ≤ 65535 by omega)
 omega
theorem aEc {x y i k V c lb : Nat} (h : V + pw (i + k) * c = mlP x y i (dgt 16 x i) k) (hy : y < pw lb) (hk : lb ≤ k) (hc : 0 < c) : k ≤ lb := by
 rw [av5 _ _ _ _ (Nat.lt_of_lt_of_le hy (aed hk))] at h
 have h1 : x % pw (i + 1) * y < pw (i + 1) * pw lb := Nat.mul_lt_mul'' (Nat.mod_lt _ (abp _)) hy
 have h2 : pw (i + k) * 1 ≤ pw (i + k) * c := Nat.mul_le_mul_left _ hc
 rw [← aqt] at h1
 have := pw_lt (show pw (i + k) < pw (i + 1 + lb) by omega)
 omega
theorem axz (x i V : Nat) (hV : V = pw (i + 1) * (x / pw (i + 1) / 2)) :
  ae5 16 V i ((x / pw (i + 1) % 2 * 65536 + dgt 16 x i) / 2) = pw i * (x / pw i / 2) ∧ (x / pw (i + 1) % 2 * 65536 + dgt 16 x i) % 2 = x / pw i % 2 := by
 have h2 := ajw x i
 have hp := abp i
 generalize x / pw (i + 1) = X at *
 have l := aa1 x i
 generalize dgt 16 x i = d at *
 constructor
 ·have e : ae5 16 V i ((X % 2 * 65536 + d) / 2) = V % pw i + pw i * ((X % 2 * 65536 + d) / 2 + 65536 * (V / pw (i + 1))) := rfl
  have e1 : V % pw i = 0 := by rw [hV,agt,Nat.mul_assoc,Nat.mul_mod_right]
  have e2 : V / pw (i + 1) = X / 2 := by rw [hV,Nat.mul_div_cancel_left _ (abp _)]
  rw [e,e1,e2,Nat.zero_add,h2]
  congr 1
  omega
 ·rw [h2]; omega
end Go.Proofs.YtohckefafbhooaaGreat
namespace Go.Proofs.YtohckefafbhooaaGreat
set_option linter.unusedVariables false
set_option linter.unusedSimpArgs false
open Go.RowKit
theorem Tryz.infoU8 : (Tryz.prog.info? 5).map (fun i => (i.zero,i.size,i.bytes)) = some (some (.int .u8 0),1,1) := by kernel_rfl
theorem aax {P : Program} (w : World) (e : TypeId) (d : Nat) (hp : P.plainKey e = true) (he : P.underlying e = some (.int .u8)) (l m : List UInt8) (n : Nat) (hl : l.length = n) (hm : m.length = n) :
  ∀ is : List Nat,(∀ i ∈ is,i < n) → (Op.eqItems (d + 1) e 1 (l.map B8).toArray (m.map B8).toArray is).run P w = .ok (is.all fun i => decide (l.getD i 0 = m.getD i 0)) w
 |[],_ => by simp [Op.eqItems]
 |i :: is,h => by
  have hi := h i (by simp)
  have h1 := run_part_plain w hp (show (l.map B8).toArray[i * 1]? = some (B8 (l.getD i 0)) by simp [List.getD,List.getElem?_eq_getElem (show i < l.length by omega)])
  have h2 := run_part_plain w hp (show (m.map B8).toArray[i * 1]? = some (B8 (m.getD i 0)) by simp [List.getD,List.getElem?_eq_getElem (show i < m.length by omega)])
  have h4 := aax w e d hp he l m n hl hm is fun j hj => h j (by simp [hj])
  have hall : (List.all (i :: is) fun i => decide (l.getD i 0 = m.getD i 0)) = (decide (l.getD i 0 = m.getD i 0) && List.all is fun i => decide (l.getD i 0 = m.getD i 0)) := rfl
  rw [hall]
  generalize (List.all is fun i => decide (l.getD i 0 = m.getD i 0)) = r at *
  generalize l.getD i 0 = x at *
  generalize m.getD i 0 = y at *
  have h3 : (Op.equalIn (d + 1) e (B8 x) (B8 y)).run P w = .ok (decide (x = y)) w := by
   have e1 : ((x.toNat : Int) == (y.toNat : Int)) = decide (x = y) := by
    by_cases hq : x = y
    ·subst hq; simp
    ·have : x.toNat ≠ y.toNat := fun e => hq (UInt8.toNat_inj.1 e)
     have h5 : ¬ (x.toNat : Int) = (y.toNat : Int) := by omega
     rw [decide_eq_false hq]
     exact beq_false_of_ne h5
   rw [← e1]
   simp [Op.equalIn,B8,Sem.run_bind,run_underlying he]
  simp only [Op.eqItems,Sem.run_bind,h1,h2,h3,Result.andThen_ok]
  by_cases hq : x = y
  ·simp [hq,h4]
  ·simp [hq]
theorem run_eql_bytes {P : Program} (w : World) (t e : TypeId) (n : Nat) (i : TypeInfo) (hu : P.underlying t = some (.array n e)) (hi : P.info? e = some i) (hc : P.cellsOf e = 1) (hp : P.plainKey e = true) (he : P.underlying e = some (.int .u8)) (l m : List UInt8) (hl : l.length = n) (hm : m.length = n) :
  (binOp .eql t (.agg (l.map B8).toArray) (.agg (m.map B8).toArray)).run P w = .ok (.bool (decide (l = m))) w := by
 rw [run_eql_struct,run_equalIn_array w 9999 _ _ hu hi,hc,aax w e 9998 hp he l m n hl hm _ (fun j hj => List.mem_range.1 hj)]
 simp only [Result.andThen_ok]
 congr 2
 rw [Bool.eq_iff_iff]
 simp only [List.all_eq_true,List.mem_range,decide_eq_true_eq]
 constructor
 ·intro h
  apply List.ext_getElem (by omega)
  intro j h1 h2
  have := h j (by omega)
  simpa [List.getD,List.getElem?_eq_getElem h1,List.getElem?_eq_getElem h2] using this
 ·rintro rfl j _
  rfl
end Go.Proofs.YtohckefafbhooaaGreat
namespace Go.Proofs.YtohckefafbhooaaGreat
set_option linter.unusedVariables false
set_option linter.unusedSimpArgs false
open Go.RowKit Go.Shelf
variable {n : Nat} {P : Program}
abbrev afp (P : Program) (l : Nat) (args : Array Value) (W : World) (R : Ending → World → Prop) : Prop := YieldAt Fence.wide 0 P l args W R
theorem aB0 (k : Nat) : Fence.wide.room k := fun d h => by cases h
theorem afp.of {l m : Nat} {args : Array Value} {W : World} {R : Ending → World → Prop} (h : YieldAt Fence.wide m P l args W R) : afp P l args W R := by
 obtain ⟨fn,tmps,assign,body,hy,h1,h2⟩ := h
 exact ⟨fn,tmps,assign,body,hy,h1,fun c cs _ => h2 c cs (aB0 _)⟩
theorem afp.plain {l m : Nat} {args : Array Value} {W : World} {R : Ending → World → Prop} (h : afp P l args W R) : YieldAt Fence.wide m P l args W R := by
 obtain ⟨fn,tmps,assign,body,hy,h1,h2⟩ := h
 exact ⟨fn,tmps,assign,body,hy,h1,fun c cs _ => h2 c cs (aB0 _)⟩
def SeqO {α : Type} (P : Program) (gf : Nat) (lb : Array Value) (encs : α → Array Value) (Kq : Nat → World → World → Prop) (C : List α → World → Prop) (Nx : List α → α → World → World → Prop) (S : List α → Prop) : Prop :=
 ∀ (l : Nat) (J Jx : List α → World → Prop) (W : World),OwnFrom W.heap.size J → OwnFrom W.heap.size Jx → (∀ pre W',J pre W' → C pre W') →
  (∀ pre x W0 W1,J pre W0 → Fr F0 W0 W1 → Nx pre x W0 W1 → afp P l (encs x) W1 fun e W' => (e = .returned (.bool true) ∧ J (pre ++ [x]) W' ∧ Kq W.heap.size W1 W') ∨ (e = .returned (.bool false) ∧ Jx (pre ++ [x]) W' ∧ Kq W.heap.size W1 W')) →
  J [] W →
  Calls P gf (#[.func (.yield l) #[] #[]] ++ lb) W fun e W' => (∃ v,e = .returned v) ∧ ((∃ xs,S xs ∧ J xs W') ∨ (∃ pre,Jx pre W'))
theorem ain {β : Type} {B B' : Nat} {I : β → World → Prop} (h : OwnFrom B I) (hb : B ≤ B') : OwnFrom B' I := fun s A D row hs hg hr => h s A D row hs hg fun r e => ⟨Nat.le_trans hb (hr r e).1,(hr r e).2⟩
theorem aa7 {β : Type} {B : Nat} {I : β → World → Prop} (h : OwnFrom B I) {s : β} {W W' : World} (hs : I s W) (f : Fr F0 W W') : I s W' := h s W W' none hs ⟨f.os,f.tape,f.output,f.size,fun k hk _ => f.block k hk fun e => e⟩ fun r e => (by cases e)
theorem aa6 {β : Type} (B g : Nat) (o : Obj) (hg : g < B) (p : β → World → Prop) (hp : OwnFrom B p) : OwnFrom B (fun s W => p s W ∧ W.heap[g]? = some o) := fun s A D row hs hgr hr =>
 ⟨hp s A D row hs.1 hgr hr,(hgr.block g (Array.getElem?_eq_some_iff.1 hs.2).1 fun e => by have := (hr g e.symm).1; omega).trans hs.2⟩
theorem ai1 {α : Type} {g : Operand} {ps : Array Tmp} {assign body : Code} {Q : Exit → Act → World → Prop} {a : Act} {w : World}
  {gf : Nat} {lb : Array Value} (hg : a.eval g = .func (.func gf) #[] lb) (eg : ∀ args w,(callFunc gf args).run P w = .ok (.enter gf args) w)
  {encs : α → Array Value} {Kq : Nat → World → World → Prop} {C : List α → World → Prop} {Nx : List α → α → World → World → Prop} {S : List α → Prop} (hseq : SeqO P gf lb encs Kq C Nx S) (hps : ∀ x,(encs x).size = ps.size)
  (hKt : ∀ {X Y Z : World},Kq (w.heap.size + 2) X Y → Kq (w.heap.size + 2) Y Z → Kq (w.heap.size + 2) X Z) (hKp : ∀ (W : World) (o : Obj),Kq (w.heap.size + 2) W (W.putObj (w.heap.size + 1) o))
  (I : List α → World → Prop) (Ix : Code → List α → World → Prop) (hI : OwnFrom w.heap.size I) (hIx : ∀ c,OwnFrom w.heap.size (Ix c)) (hIC : ∀ pre W,I pre W → C pre W) (h0 : I [] w)
  (Ax : List α → α → Act → World → Prop) (hAx : ∀ pre x a',OwnFrom w.heap.size (fun (_ : Unit) W => Ax pre x a' W))
  (hassign : ∀ (l : Nat) (pre : List α) (x : α) (W0 W : World) (K : Act → World → Prop),I pre W0 → Fr F0 W0 W → Nx pre x W0 W → (∀ a' W',KeepsFrom w.heap.size W W' → Kq (w.heap.size + 2) W W' → I pre W' → Ax pre x a' W' → K a' W') →
   assign.wpIn (Fence.wide.inRound l) (n - 1 - 1) P (Exit.then K (fun _ _ _ => False)) { tmps := (ps.zip (encs x)).foldl (fun t (p,v) => t.setIfInBounds p v) a.tmps,defers := [] } W)
  (hbody : ∀ (l : Nat) (pre : List α) (x : α) (a' : Act) (W : World),I pre W → Ax pre x a' W → body.wpIn (Fence.wide.inRound l) (n - 1 - 1) P (ownPostG w.heap.size (Kq (w.heap.size + 2)) I (fun c p W' => Ix c p W' ∧ Kq (w.heap.size + 2) W W') (pre ++ [x]) W) a' W)
  (hdone : ∀ (D : Nat) (xs : List α) (W : World),w.heap.size ≤ D → S xs → I xs W → W.heap[D]? = some (.deferred (some [])) → Q .normal { a with defers := { target := .collected D,args := #[] } :: a.defers } W)
  (hstop : ∀ (D : Nat) (c : Code) (pre : List α) (W : World),w.heap.size ≤ D → Ix c pre W → W.heap[D]? = some (.deferred (some [])) → c.wpIn Fence.wide n P Q { a with defers := { target := .collected D,args := #[] } :: a.defers } W) :
  (Code.rangeFunc g ps assign body).wpIn Fence.wide n P Q a w := by
 refine wpIn_rangeFunc fun fn hfn => ?_
 rw [show Fence.wide.round = none from rfl]
 generalize hB : w.heap.size = B at *
 obtain ⟨R,hR⟩ : ∃ R : LoopState → Option Code → Obj,R = fun st pe => .loop { state := st,pending := pe,fn,tmps := a.tmps,params := ps,assign,body,defers := B } := ⟨_,rfl⟩
 obtain ⟨V,hV⟩ : ∃ V,V = (w.alloc (.deferred (some []))).alloc (R .ready none) := ⟨_,rfl⟩
 have hVl : V.heap[B + 1]? = some (R .ready none) := by
  rw [hV,← hB]; have := World.alloc_heap_new (w.alloc (.deferred (some []))) (R .ready none); rwa [World.size_alloc] at this
 have hVd : V.heap[B]? = some (.deferred (some [])) := by
  rw [hV,← hB]; exact (Below.heap_alloc _ _ _ (by simp)).trans (World.alloc_heap_new w _)
 have hVs : V.heap.size = B + 1 + 1 := by rw [hV,← hB]; simp
 refine ⟨B + 1,[{ target := .collected B,args := #[] }],V,{ target := .fn (.func gf) lb,args := #[.func (.yield (B + 1)) #[] #[]] },V,gf,#[.func (.yield (B + 1)) #[] #[]] ++ lb,V,?_,?_,?_,?_,(fun h => by cases h),?_⟩
 ·rw [hV,hR,← hB]; exact run_enterLoop_outer _ _ _ _ _
 ·simp only [resolve,hg]
  simp [go_sem]
 ·intro f' hf'
  trivial
 ·simp [invoke,go_sem,eg]
 ·have H := hseq (B + 1) (fun pre W => (I pre W ∧ W.heap[B + 1]? = some (R .ready none)) ∧ W.heap[B]? = some (.deferred (some [])))
   (fun pre W => ∃ c,(Ix c pre W ∧ W.heap[B + 1]? = some (R .done (some c))) ∧ W.heap[B]? = some (.deferred (some []))) V
   (aa6 _ _ _ (by omega) _ (aa6 _ _ _ (by omega) _ (ain hI (by omega))))
   (fun s A D row hs hgr hr => by
    obtain ⟨c,hc⟩ := hs
    exact ⟨c,aa6 _ _ _ (by omega) _ (aa6 _ _ _ (by omega) _ (ain (hIx c) (by omega))) s A D row hc hgr hr⟩)
   (fun pre W' h => hIC pre W' h.1.1) ?_ ⟨⟨by rw [hV]; exact hI.alloc _ (hI.alloc _ h0),hVl⟩,hVd⟩
  ·refine (callsIn_wide.2 H).mono ?_
   rintro e U ⟨⟨v,rfl⟩,(⟨xs,hS,⟨hi,hl⟩,hk⟩ | ⟨pre,c,⟨hi,hl⟩,hk⟩)⟩
   ·rw [hR] at hl
    exact ⟨none,_,run_endLoop (P := P) hl (by simp),hdone _ xs _ (Nat.le_refl _) hS (hI.putObj _ hi (by omega) hl rfl) ((World.putObj_heap_other (by omega)).trans hk)⟩
   ·rw [hR] at hl
    exact ⟨some c,_,run_endLoop (P := P) hl (by simp),hstop _ c pre _ (Nat.le_refl _) ((hIx c).putObj _ hi (by omega) hl rfl) ((World.putObj_heap_other (by omega)).trans hk)⟩
  ·rintro pre x W0 W hj0 f0 hnx
   have hj1 := aa7 (aa6 _ _ _ (by omega) _ (aa6 _ _ _ (by omega) _ (ain hI (by omega : B ≤ B + 1 + 1)))) hj0 f0
   obtain ⟨⟨hi,hl⟩,hk⟩ := hj1
   rw [hR] at hl
   have hy := run_yield (P := P) (args := encs x) hl (hps x)
   refine afp.of (m := n - 1 - 1) ⟨fn,_,assign,body,hy,roundIn_of_wpIn hfn (hassign _ pre x W0 W _ hj0.1.1 f0 hnx ?_)⟩
   clear hy
   intro a' Wa hka hqa hia hax
   replace hl := hka.same _ _ (by omega) hl rfl
   replace hk := hka.same _ _ (Nat.le_refl _) hk rfl
   have hlt : B + 1 < Wa.heap.size := (Array.getElem?_eq_some_iff.1 hl).1
   refine ⟨_,run_beginRound hl rfl,?_⟩
   obtain ⟨bz,hbz⟩ : ∃ bz : Loop,bz = { state := .busy,pending := none,fn,tmps := a.tmps,params := ps,assign,body,defers := B } := ⟨_,rfl⟩
   have hl2 : (Wa.putObj (B + 1) (.loop bz)).heap[B + 1]? = some (.loop bz) := World.putObj_heap_same hlt
   have hk2 : (Wa.putObj (B + 1) (.loop bz)).heap[B]? = some (.deferred (some [])) := (World.putObj_heap_other (by omega)).trans hk
   rw [← hbz]
   refine wpIn_mono (hbody _ pre x a' _ (hI.putObj _ hia (by omega) hl rfl) ((hAx pre x a').putObj (s := ()) _ hax (by omega) hl rfl)) ?_
   have fin : ∀ (j : Option Code) (U : World),KeepsFrom B (Wa.putObj (B + 1) (.loop bz)) U → U.heap[B + 1]? = some (.loop bz) ∧
     (Instr.endRound (B + 1) j).run P U = .ok (.bool j.isNone) (U.putObj (B + 1) (R (if j.isNone then .ready else .done) j)) ∧
     (U.putObj (B + 1) (R (if j.isNone then .ready else .done) j)).heap[B + 1]? = some (R (if j.isNone then .ready else .done) j) ∧
     (U.putObj (B + 1) (R (if j.isNone then .ready else .done) j)).heap[B]? = some (.deferred (some [])) := fun j U hk3 => by
    have hl3 := hk3.same _ _ (by omega) hl2 rfl
    refine ⟨hl3,?_,World.putObj_heap_same (Array.getElem?_eq_some_iff.1 hl3).1,(World.putObj_heap_other (by omega)).trans (hk3.same _ _ (Nat.le_refl _) hk2 rfl)⟩
    have := run_endRound (P := P) j hl3
    rw [hbz] at this
    rw [hR]
    exact this
   rintro e a3 U hp
   cases e with
   |normal =>
    obtain ⟨hl3,hr,hl4,hk4⟩ := fin none U hp.1
    exact ⟨_,_,hr,.inl ⟨rfl,⟨⟨hI.putObj _ hp.2.2 (by omega) hl3 rfl,hl4⟩,hk4⟩,by rw [hVs]; exact hKt hqa (hKt (hKt (hKp _ _) hp.2.1) (hKp _ _))⟩⟩
   |ret =>
    obtain ⟨hl3,hr,hl4,hk4⟩ := fin (some .ret) U hp.1
    exact ⟨_,_,hr,.inr ⟨rfl,⟨.ret,⟨(hIx _).putObj _ hp.2.1 (by omega) hl3 rfl,hl4⟩,hk4⟩,by rw [hVs]; exact hKt hqa (hKt (hKt (hKp _ _) hp.2.2) (hKp _ _))⟩⟩
   |exit id =>
    obtain ⟨hl3,hr,hl4,hk4⟩ := fin (some (.exit id)) U hp.1
    exact ⟨_,_,hr,.inr ⟨rfl,⟨.exit id,⟨(hIx _).putObj _ hp.2.1 (by omega) hl3 rfl,hl4⟩,hk4⟩,by rw [hVs]; exact hKt hqa (hKt (hKt (hKp _ _) hp.2.2) (hKp _ _))⟩⟩
   |goto t =>
    obtain ⟨hl3,hr,hl4,hk4⟩ := fin (some (.goto t)) U hp.1
    exact ⟨_,_,hr,.inr ⟨rfl,⟨.goto t,⟨(hIx _).putObj _ hp.2.1 (by omega) hl3 rfl,hl4⟩,hk4⟩,by rw [hVs]; exact hKt hqa (hKt (hKt (hKp _ _) hp.2.2) (hKp _ _))⟩⟩
   |panic ch => exact hp.elim
   |outgrown => exact hp.elim
end Go.Proofs.YtohckefafbhooaaGreat
namespace Go.Proofs.YtohckefafbhooaaGreat
set_option linter.unusedVariables false
set_option linter.unusedSimpArgs false
open Go.RowKit
section
variable {F : Fence} {n : Nat} {P : Program} {ops : Array Oper} {Q : Exit → Act → World → Prop} {md : Region.Mode}
end
section
variable {n : Nat} {P : Program} {ops : Array Oper} {Q : Exit → Act → World → Prop} {md : Region.Mode} {S : World → Prop}
end
end Go.Proofs.YtohckefafbhooaaGreat
namespace Go.Proofs.YtohckefafbhooaaGreat
set_option linter.unusedVariables false
set_option linter.unusedSimpArgs false
open Go.RowKit Go.Shelf
def Kbm (b : Nat) (W W' : World) : Prop := ∀ o,W.heap[b]? = some o → W'.heap[b]? = some o
theorem Kbm.trans {b : Nat} {X Y Z : World} (h : Kbm b X Y) (k : Kbm b Y Z) : Kbm b X Z := fun o ho => k o (h o ho)
theorem Kbm.put {b g : Nat} {W : World} {o : Obj} (h : g ≠ b) : Kbm b W (W.putObj g o) := fun o' ho => (World.putObj_heap_other (by omega)).trans ho
theorem Kbm.fr {b : Nat} {S : Nat → Prop} {W W' : World} (f : Fr S W W') (hs : ¬ S b) : Kbm b W W' := fun o ho => f.keeps hs ho
def au5 {α : Type} (P : Program) (gf : Nat) (lb : Array Value) (encs : α → Array Value) (Kq : Nat → World → World → Prop) (C : List α → World → Prop) (Nx : List α → α → World → World → Prop) (S : List α → Prop) : Prop :=
 ∀ (l : Nat) (J Jx : List α → World → Prop) (W : World),OwnFrom W.heap.size J → OwnFrom W.heap.size Jx → (∀ pre W',J pre W' → C pre W') →
  (∀ pre A A',J pre A → Fr (fun k => k = W.heap.size) A A' → W.heap.size < A.heap.size → J pre A') →
  (∀ pre x W0 W1,J pre W0 → Fr F0 W0 W1 → W.heap.size < W1.heap.size → Nx pre x W0 W1 → afp P l (encs x) W1 fun e W' => (e = .returned (.bool true) ∧ J (pre ++ [x]) W' ∧ Kq W.heap.size W1 W') ∨ (e = .returned (.bool false) ∧ Jx (pre ++ [x]) W' ∧ Kq W.heap.size W1 W')) →
  J [] W →
  Calls P gf (#[.func (.yield l) #[] #[]] ++ lb) W fun e W' => (∃ v,e = .returned v) ∧ ((∃ xs,S xs ∧ J xs W') ∨ (∃ pre,Jx pre W'))
section
variable {n : Nat} {P : Program}
theorem ai2 {α : Type} {g : Operand} {ps : Array Tmp} {assign body : Code} {Q : Exit → Act → World → Prop} {a : Act} {w : World}
  {gf : Nat} {lb : Array Value} (hg : a.eval g = .func (.func gf) #[] lb) (eg : ∀ args w,(callFunc gf args).run P w = .ok (.enter gf args) w)
  {encs : α → Array Value} {Kq : Nat → World → World → Prop} {C : List α → World → Prop} {Nx : List α → α → World → World → Prop} {S : List α → Prop} (hseq : au5 P gf lb encs Kq C Nx S) (hps : ∀ x,(encs x).size = ps.size)
  (hKt : ∀ {X Y Z : World},Kq (w.heap.size + 2) X Y → Kq (w.heap.size + 2) Y Z → Kq (w.heap.size + 2) X Z) (hKp : ∀ (W : World) (o : Obj),Kq (w.heap.size + 2) W (W.putObj (w.heap.size + 1) o))
  (I : List α → World → Prop) (Ix : Code → List α → World → Prop) (hI : OwnFrom w.heap.size I) (hIx : ∀ c,OwnFrom w.heap.size (Ix c)) (hIC : ∀ pre W,I pre W → C pre W) (hI4 : ∀ pre A A',I pre A → Fr (fun k => k = w.heap.size + 2) A A' → w.heap.size + 2 < A.heap.size → I pre A') (h0 : I [] w)
  (Ax : List α → α → Act → World → Prop) (hAx : ∀ pre x a',OwnFrom w.heap.size (fun (_ : Unit) W => Ax pre x a' W))
  (hassign : ∀ (l : Nat) (pre : List α) (x : α) (W0 W : World) (K : Act → World → Prop),I pre W0 → Fr F0 W0 W → w.heap.size + 2 < W.heap.size → Nx pre x W0 W → (∀ a' W',KeepsFrom w.heap.size W W' → Kq (w.heap.size + 2) W W' → I pre W' → Ax pre x a' W' → K a' W') →
   assign.wpIn (Fence.wide.inRound l) (n - 1 - 1) P (Exit.then K (fun _ _ _ => False)) { tmps := (ps.zip (encs x)).foldl (fun t (p,v) => t.setIfInBounds p v) a.tmps,defers := [] } W)
  (hbody : ∀ (l : Nat) (pre : List α) (x : α) (a' : Act) (W : World),I pre W → Ax pre x a' W → body.wpIn (Fence.wide.inRound l) (n - 1 - 1) P (ownPostG w.heap.size (Kq (w.heap.size + 2)) I (fun c p W' => Ix c p W' ∧ Kq (w.heap.size + 2) W W') (pre ++ [x]) W) a' W)
  (hdone : ∀ (D : Nat) (xs : List α) (W : World),w.heap.size ≤ D → S xs → I xs W → W.heap[D]? = some (.deferred (some [])) → Q .normal { a with defers := { target := .collected D,args := #[] } :: a.defers } W)
  (hstop : ∀ (D : Nat) (c : Code) (pre : List α) (W : World),w.heap.size ≤ D → Ix c pre W → W.heap[D]? = some (.deferred (some [])) → c.wpIn Fence.wide n P Q { a with defers := { target := .collected D,args := #[] } :: a.defers } W) :
  (Code.rangeFunc g ps assign body).wpIn Fence.wide n P Q a w := by
 refine wpIn_rangeFunc fun fn hfn => ?_
 rw [show Fence.wide.round = none from rfl]
 generalize hB : w.heap.size = B at *
 obtain ⟨R,hR⟩ : ∃ R : LoopState → Option Code → Obj,R = fun st pe => .loop { state := st,pending := pe,fn,tmps := a.tmps,params := ps,assign,body,defers := B } := ⟨_,rfl⟩
 obtain ⟨V,hV⟩ : ∃ V,V = (w.alloc (.deferred (some []))).alloc (R .ready none) := ⟨_,rfl⟩
 have hVl : V.heap[B + 1]? = some (R .ready none) := by
  rw [hV,← hB]; have := World.alloc_heap_new (w.alloc (.deferred (some []))) (R .ready none); rwa [World.size_alloc] at this
 have hVd : V.heap[B]? = some (.deferred (some [])) := by
  rw [hV,← hB]; exact (Below.heap_alloc _ _ _ (by simp)).trans (World.alloc_heap_new w _)
 have hVs : V.heap.size = B + 1 + 1 := by rw [hV,← hB]; simp
 refine ⟨B + 1,[{ target := .collected B,args := #[] }],V,{ target := .fn (.func gf) lb,args := #[.func (.yield (B + 1)) #[] #[]] },V,gf,#[.func (.yield (B + 1)) #[] #[]] ++ lb,V,?_,?_,?_,?_,(fun h => by cases h),?_⟩
 ·rw [hV,hR,← hB]; exact run_enterLoop_outer _ _ _ _ _
 ·simp only [resolve,hg]
  simp [go_sem]
 ·intro f' hf'
  trivial
 ·simp [invoke,go_sem,eg]
 ·have H := hseq (B + 1) (fun pre W => (I pre W ∧ W.heap[B + 1]? = some (R .ready none)) ∧ W.heap[B]? = some (.deferred (some [])))
   (fun pre W => ∃ c,(Ix c pre W ∧ W.heap[B + 1]? = some (R .done (some c))) ∧ W.heap[B]? = some (.deferred (some []))) V
   (aa6 _ _ _ (by omega) _ (aa6 _ _ _ (by omega) _ (ain hI (by omega))))
   (fun s A D row hs hgr hr => by
    obtain ⟨c,hc⟩ := hs
    exact ⟨c,aa6 _ _ _ (by omega) _ (aa6 _ _ _ (by omega) _ (ain (hIx c) (by omega))) s A D row hc hgr hr⟩)
   (fun pre W' h => hIC pre W' h.1.1) (fun pre A A' h hf hA => by rw [hVs] at hA hf; exact ⟨⟨hI4 pre A A' h.1.1 hf hA,hf.keeps (fun e => by omega) h.1.2⟩,hf.keeps (fun e => by omega) h.2⟩) ?_ ⟨⟨by rw [hV]; exact hI.alloc _ (hI.alloc _ h0),hVl⟩,hVd⟩
  ·refine (callsIn_wide.2 H).mono ?_
   rintro e U ⟨⟨v,rfl⟩,(⟨xs,hS,⟨hi,hl⟩,hk⟩ | ⟨pre,c,⟨hi,hl⟩,hk⟩)⟩
   ·rw [hR] at hl
    exact ⟨none,_,run_endLoop (P := P) hl (by simp),hdone _ xs _ (Nat.le_refl _) hS (hI.putObj _ hi (by omega) hl rfl) ((World.putObj_heap_other (by omega)).trans hk)⟩
   ·rw [hR] at hl
    exact ⟨some c,_,run_endLoop (P := P) hl (by simp),hstop _ c pre _ (Nat.le_refl _) ((hIx c).putObj _ hi (by omega) hl rfl) ((World.putObj_heap_other (by omega)).trans hk)⟩
  ·rintro pre x W0 W hj0 f0 hsz hnx
   rw [hVs] at hsz
   have hj1 := aa7 (aa6 _ _ _ (by omega) _ (aa6 _ _ _ (by omega) _ (ain hI (by omega : B ≤ B + 1 + 1)))) hj0 f0
   obtain ⟨⟨hi,hl⟩,hk⟩ := hj1
   rw [hR] at hl
   have hy := run_yield (P := P) (args := encs x) hl (hps x)
   refine afp.of (m := n - 1 - 1) ⟨fn,_,assign,body,hy,roundIn_of_wpIn hfn (hassign _ pre x W0 W _ hj0.1.1 f0 hsz hnx ?_)⟩
   clear hy
   intro a' Wa hka hqa hia hax
   replace hl := hka.same _ _ (by omega) hl rfl
   replace hk := hka.same _ _ (Nat.le_refl _) hk rfl
   have hlt : B + 1 < Wa.heap.size := (Array.getElem?_eq_some_iff.1 hl).1
   refine ⟨_,run_beginRound hl rfl,?_⟩
   obtain ⟨bz,hbz⟩ : ∃ bz : Loop,bz = { state := .busy,pending := none,fn,tmps := a.tmps,params := ps,assign,body,defers := B } := ⟨_,rfl⟩
   have hl2 : (Wa.putObj (B + 1) (.loop bz)).heap[B + 1]? = some (.loop bz) := World.putObj_heap_same hlt
   have hk2 : (Wa.putObj (B + 1) (.loop bz)).heap[B]? = some (.deferred (some [])) := (World.putObj_heap_other (by omega)).trans hk
   rw [← hbz]
   refine wpIn_mono (hbody _ pre x a' _ (hI.putObj _ hia (by omega) hl rfl) ((hAx pre x a').putObj (s := ()) _ hax (by omega) hl rfl)) ?_
   have fin : ∀ (j : Option Code) (U : World),KeepsFrom B (Wa.putObj (B + 1) (.loop bz)) U → U.heap[B + 1]? = some (.loop bz) ∧
     (Instr.endRound (B + 1) j).run P U = .ok (.bool j.isNone) (U.putObj (B + 1) (R (if j.isNone then .ready else .done) j)) ∧
     (U.putObj (B + 1) (R (if j.isNone then .ready else .done) j)).heap[B + 1]? = some (R (if j.isNone then .ready else .done) j) ∧
     (U.putObj (B + 1) (R (if j.isNone then .ready else .done) j)).heap[B]? = some (.deferred (some [])) := fun j U hk3 => by
    have hl3 := hk3.same _ _ (by omega) hl2 rfl
    refine ⟨hl3,?_,World.putObj_heap_same (Array.getElem?_eq_some_iff.1 hl3).1,(World.putObj_heap_other (by omega)).trans (hk3.same _ _ (Nat.le_refl _) hk2 rfl)⟩
    have := run_endRound (P := P) j hl3
    rw [hbz] at this
    rw [hR]
    exact this
   rintro e a3 U hp
   cases e with
   |normal =>
    obtain ⟨hl3,hr,hl4,hk4⟩ := fin none U hp.1
    exact ⟨_,_,hr,.inl ⟨rfl,⟨⟨hI.putObj _ hp.2.2 (by omega) hl3 rfl,hl4⟩,hk4⟩,by rw [hVs]; exact hKt hqa (hKt (hKt (hKp _ _) hp.2.1) (hKp _ _))⟩⟩
   |ret =>
    obtain ⟨hl3,hr,hl4,hk4⟩ := fin (some .ret) U hp.1
    exact ⟨_,_,hr,.inr ⟨rfl,⟨.ret,⟨(hIx _).putObj _ hp.2.1 (by omega) hl3 rfl,hl4⟩,hk4⟩,by rw [hVs]; exact hKt hqa (hKt (hKt (hKp _ _) hp.2.2) (hKp _ _))⟩⟩
   |exit id =>
    obtain ⟨hl3,hr,hl4,hk4⟩ := fin (some (.exit id)) U hp.1
    exact ⟨_,_,hr,.inr ⟨rfl,⟨.exit id,⟨(hIx _).putObj _ hp.2.1 (by omega) hl3 rfl,hl4⟩,hk4⟩,by rw [hVs]; exact hKt hqa (hKt (hKt (hKp _ _) hp.2.2) (hKp _ _))⟩⟩
   |goto t =>
    obtain ⟨hl3,hr,hl4,hk4⟩ := fin (some (.goto t)) U hp.1
    exact ⟨_,_,hr,.inr ⟨rfl,⟨.goto t,⟨(hIx _).putObj _ hp.2.1 (by omega) hl3 rfl,hl4⟩,hk4⟩,by rw [hVs]; exact hKt hqa (hKt (hKt (hKp _ _) hp.2.2) (hKp _ _))⟩⟩
   |panic ch => exact hp.elim
   |outgrown => exact hp.elim
end
end Go.Proofs.YtohckefafbhooaaGreat
namespace Go.Proofs.YtohckefafbhooaaGreat
set_option linter.unusedVariables false
set_option linter.unusedSimpArgs false
open Go.RowKit
structure R8 (w : World) (g : Nat) (t : TypeId) (n m : Nat) (d : Array Nat) : Prop where
 sz : d.size = n
 row : ∃ cs,w.heap[g]? = some (.cells cs t (0,0)) ∧ cs.size = m ∧ n ≤ m ∧ ∀ i,i < n → cs[i]? = some (.int .u8 ((d[i]! : Nat) : Int))
end Go.Proofs.YtohckefafbhooaaGreat
namespace Go.Proofs.YtohckefafbhooaaGreat
open Go.RowKit
theorem jw {P : Program} {fn : Func} {p u : Tmp} {ty : TypeId} (h : fn.results = #[.cell p ty,.tmp u]) (tmps : Array Value) (w : World) (g : Nat) (t : TypeId) (cs : Array Value) (fr : Nat × Nat) (d : TypeDesc)
  (hp : tmps.getD p undef = .pointer (some ⟨g,0,none⟩)) (hg : w.heap[g]? = some (.cells cs t fr))
  (hu : P.underlying ty = some d) (hd : (match d with | .struct _ | .array _ _ => true | _ => false) = true) (hi : (P.info? ty).map (·.size) = some cs.size) :
  (results fn tmps).run P w = .ok (.tuple #[.agg cs,tmps.getD u undef]) w := by
 rw [results_cell_tmp h,hp]
 simp [asAddr,run_loadVar_row w g t ty cs fr d hg hu hd hi]
end Go.Proofs.YtohckefafbhooaaGreat
