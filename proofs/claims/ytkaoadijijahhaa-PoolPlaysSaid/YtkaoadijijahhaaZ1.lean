import Derived.Test.YtkaoadijijahhaaRows
import Derived.WalkKit
import Derived.Lib.Hide
import Derived.Deep.RegionHeld
import Derived.Deep.RegionHeld3
import Derived.Deep.Draws
import Derived.WalkSpells
import Derived.WalkLawsBesides
import Derived.Laws.Rows
import Derived.Laws.Tables
import Derived.Laws.StructEq
import Derived.ChangeKeysEq
import Derived.Below
import Derived.RangeFuncNested
import Derived.RangeFuncBound
import Derived.RangeFuncCalls
import Derived.RangeFuncLeaves
import Derived.Shelf.Abstract
import Derived.Shelf.RegionOpen
import Derived.OwnWalkIn
import Derived.TacticsInMore
import Derived.LoopNIn
import Derived.LoopIn
import Derived.RangeFuncBox
import Derived.RangeFuncWrites
/- Steps of a region that draws its order, with their side conditions laid by auto-parameters. Nothing here speaks of the program. -/
namespace Go.Proofs.Ytkaoadijijahhaa
set_option maxRecDepth 100000
set_option linter.unusedVariables false
section
variable {P : Program} {md : Region.Mode} {ops : Array Oper} {Q : Exit → Act → World → Prop} {S : World → Prop} {fuel : Nat} {listed : Array Bool} {a : Act} {w : World}

/-- An operation that reads alone, taken first. -/
theorem rtake (i : Nat) {d : Option Tmp} {op : Op} {ty : TypeId} {pos : String} {af : Array Edge} {gd : Option (Nat × Bool)} {v : Value} {a' : Act} (h : wpAnyH P md ops Q S fuel (listed.setIfInBounds i true) a' w)
    (hi : ops[i]? = some ⟨d, op, ty, pos, af, gd⟩ := by rfl) (hs : Region.noSelect ops = true := by kernel_rfl) (hf : Region.free md ops listed i = true := by kernel_rfl)
    (hr : (Region.ready md ops listed).contains i = true := by kernel_rfl) (hQ : ∀ c a w, Q (.panic c) (a.put (d) v) w → Q (.panic c) a w := by exact fun _ _ _ h => h)
    (hw : Region.wanted ⟨d, op, ty, pos, af, gd⟩ (yielded ops a.tmps) = true := by rfl)
    (hy : ∀ w, S w → (execOp a.eval ⟨d, op, ty, pos, af, gd⟩).run P w = .ok (.value v) w := by (intro w hSw; (try dsimp only at hSw); go_simp; (try (with_reducible rfl)); done))
    (ha : a.put (d) v = a' := by (conv => lhs; (simp only [Act.put, List.setIfInBounds_toArray]; dsimp only [List.set_cons_zero, List.set_cons_succ])))
    (hS : S w := by assumption) : wpAnyH P md ops Q S (fuel + 1) listed a w :=
  wpAnyH_take hi hs hf hr hQ (Or.inl ⟨hw, hy⟩) hS (ha ▸ h)
/-- One that is not wanted. -/
theorem rleave (i : Nat) {d : Option Tmp} {op : Op} {ty : TypeId} {pos : String} {af : Array Edge} {gd : Option (Nat × Bool)} {a' : Act} (h : wpAnyH P md ops Q S fuel (listed.setIfInBounds i true) a' w)
    (hi : ops[i]? = some ⟨d, op, ty, pos, af, gd⟩ := by rfl) (hs : Region.noSelect ops = true := by kernel_rfl) (hf : Region.free md ops listed i = true := by kernel_rfl)
    (hr : (Region.ready md ops listed).contains i = true := by kernel_rfl) (hQ : ∀ c a w, Q (.panic c) (a.put (d) undef) w → Q (.panic c) a w := by exact fun _ _ _ h => h)
    (hw : Region.wanted ⟨d, op, ty, pos, af, gd⟩ (yielded ops a.tmps) = false := by rfl)
    (ha : a.put (d) undef = a' := by (conv => lhs; (simp only [Act.put, List.setIfInBounds_toArray]; dsimp only [List.set_cons_zero, List.set_cons_succ])))
    (hS : S w := by assumption) : wpAnyH P md ops Q S (fuel + 1) listed a w :=
  wpAnyH_take hi hs hf hr hQ (Or.inr ⟨hw, rfl⟩) hS (ha ▸ h)
/-- The one that is ready. -/
theorem rone (i : Nat) {d : Option Tmp} {op : Op} {ty : TypeId} {pos : String} {af : Array Edge} {gd : Option (Nat × Bool)}
    (h : ∀ K' : Act → World → Prop, Shut (∀ a w, S w → (S w → wpAnyH P md ops Q S fuel (listed.setIfInBounds i true) a w) → K' a w) → if Region.wanted ⟨d, op, ty, pos, af, gd⟩ (yielded ops a.tmps) = true then Oper.wp P ⟨d, op, ty, pos, af, gd⟩ a w K' Q else K' (a.put d undef) w)
    (hr : Region.ready md ops listed = [i] := by kernel_rfl) (ho : ops[i]? = some ⟨d, op, ty, pos, af, gd⟩ := by rfl) : wpAnyH P md ops Q S (fuel + 1) listed a w :=
  wpAnyH_ready hr (by simp) (AllReadyH.cons ho h AllReadyH.nil)
theorem rdone (h : Q .normal a w) (hr : Region.ready md ops listed = [] := by kernel_rfl) : wpAnyH P md ops (NoPanic Q) S fuel listed a w := wpAnyH_done hr (NoPanic.normal h) _
theorem rbegin {id : Nat} (hS : S w.drew) (h : S w.drew → wpAnyH P .any ops (NoPanic Q) S ops.size (Array.replicate ops.size false) a w.drew) (hm : P.follows .mixedOrders = true := by kernel_rfl) : (Code.region id ops true).wp P Q a w :=
  wp_region_noPanic (wp_region_held_drew hm hS h)
end
theorem aST {α : Type} (l : List α) (i : Nat) (x : α) : l.toArray.setIfInBounds i x = (l.set i x).toArray := by simp
theorem aS0 {α : Type} (y : α) (l : List α) (x : α) : (y :: l).set 0 x = x :: l := rfl
theorem aS1 {α : Type} (y : α) (l : List α) (i : Nat) (x : α) : (y :: l).set (i + 1) x = y :: l.set i x := rfl
end Go.Proofs.Ytkaoadijijahhaa

/- Words for memory that changes at some blocks alone, for slices that are read, and laws on append and conversions in these words. Nothing here speaks of the program. -/
namespace Go.Proofs.Ytkaoadijijahhaa
set_option maxRecDepth 100000
set_option linter.unusedVariables false
set_option linter.unusedSimpArgs false
open Go.RowKit

/-- But for the blocks of S, and new ones, w' is as w. -/
structure Fr (S : Nat → Prop) (w w' : World) : Prop where
  os : w'.os = w.os
  tape : w'.tape = w.tape
  output : w'.output = w.output
  size : w.heap.size ≤ w'.heap.size
  block : ∀ k, k < w.heap.size → ¬ S k → w'.heap[k]? = w.heap[k]?

def F0 : Nat → Prop := fun _ => False

theorem Fr.refl (S : Nat → Prop) (w : World) : Fr S w w := ⟨rfl, rfl, rfl, Nat.le_refl _, fun _ _ _ => rfl⟩

theorem Fr.mono {S T : Nat → Prop} {w w' : World} (h : Fr S w w') (hs : ∀ k, k < w.heap.size → S k → T k) : Fr T w w' :=
  ⟨h.os, h.tape, h.output, h.size, fun k hk ht => h.block k hk fun s => ht (hs k hk s)⟩

theorem Fr.of0 {T : Nat → Prop} {w w' : World} (h : Fr F0 w w') : Fr T w w' := h.mono fun _ _ f => f.elim

/-- Two steps: what the second may change is what the first may, or was made since. -/
theorem Fr.trans {S T : Nat → Prop} {a b c : World} (h : Fr S a b) (k : Fr T b c) (hst : ∀ i, i < a.heap.size → T i → S i) : Fr S a c :=
  ⟨k.os.trans h.os, k.tape.trans h.tape, k.output.trans h.output, Nat.le_trans h.size k.size,
    fun i hi hs => (k.block i (Nat.lt_of_lt_of_le hi h.size) fun t => hs (hst i hi t)).trans (h.block i hi hs)⟩

theorem Fr.trans' {S : Nat → Prop} {a b c : World} (h : Fr S a b) (k : Fr S b c) : Fr S a c := h.trans k fun _ _ s => s

theorem Fr.alloc {S : Nat → Prop} {a w : World} (h : Fr S a w) (o : Obj) : Fr S a (w.alloc o) :=
  h.trans (T := F0) ⟨rfl, rfl, rfl, by simp, fun k hk _ => heap_alloc_old w o hk⟩ fun _ _ f => f.elim

theorem Fr.drew {S : Nat → Prop} {a w : World} (h : Fr S a w) : Fr S a w.drew := ⟨h.os, h.tape, h.output, h.size, h.block⟩

theorem Fr.drewN {S : Nat → Prop} {a w : World} (h : Fr S a w) (n : Nat) : Fr S a (w.drewN n) := ⟨h.os, h.tape, h.output, h.size, h.block⟩

theorem Fr.setCell {S : Nat → Prop} {a w : World} (h : Fr S a w) {p : Addr} (hp : p.block < a.heap.size → S p.block) (u : Value) : Fr S a (w.setCell p u) :=
  h.trans (T := fun k => k = p.block) ⟨rfl, rfl, rfl, by simp [World.setCell], fun k _ hk => Below.heap_setCell _ _ _ _ hk⟩ fun i hi e => by subst e; exact hp hi

theorem Fr.grown {S : Nat → Prop} {a w w' : World} {row : Option Nat} (h : Fr S a w) (hg : w.grownBy w' row) (hr : ∀ k, row = some k → k < a.heap.size → S k) : Fr S a w' :=
  h.trans (T := fun k => row = some k) ⟨hg.os, hg.tape, hg.output, hg.size, fun k hk hn => hg.block k hk fun e => hn e.symm⟩ fun i hi e => hr i e hi

theorem Fr.lt {S : Nat → Prop} {w w' : World} (h : Fr S w w') {k : Nat} (hk : k < w.heap.size) : k < w'.heap.size := Nat.lt_of_lt_of_le hk h.size

theorem Fr.cell {S : Nat → Prop} {w w' : World} (h : Fr S w w') {p : Addr} {v : Value} (hp : ¬ S p.block) (hc : w.cell? p = some v) : w'.cell? p = some v :=
  (World.cell?_of_block (h.block p.block (World.block_lt_of_cell? w p hc) hp)).trans hc

theorem Fr.keeps {S : Nat → Prop} {w w' : World} (h : Fr S w w') {k : Nat} {o : Obj} (hp : ¬ S k) (hc : w.heap[k]? = some o) : w'.heap[k]? = some o :=
  (h.block k (Array.getElem?_eq_some_iff.1 hc).1 hp).trans hc

theorem Fr.below {S : Nat → Prop} {w w' : World} {B : Nat} (h : Fr S w w') (hB : B ≤ w.heap.size) (hs : ∀ k, k < B → ¬ S k) : Below B w w' :=
  ⟨h.os, h.tape, h.output, h.size, fun k hk => h.block k (by omega) (hs k hk)⟩

theorem Fr.of_below {w w' : World} (h : Below w.heap.size w w') : Fr F0 w w' := ⟨h.os, h.tape, h.output, h.size, fun k hk _ => h.block k hk⟩

theorem Fr.of_below' {w w' : World} {n : Nat} (h : Below n w w') : Fr (fun k => n ≤ k) w w' := ⟨h.os, h.tape, h.output, h.size, fun k _ hn => h.block k (by omega)⟩

theorem Fr.frozen {S : Nat → Prop} {w w' : World} (h : Fr S w w') {p : Addr} (hp : ¬ S p.block) (hl : p.block < w.heap.size) : w'.frozen? p = w.frozen? p :=
  World.frozen?_of_block (h.block p.block hl hp)

/-- A slice's address, its room, and its elements' cells: size cells an element. -/
structure Sl (w : World) (size : Nat) (a : Option Addr) (c : Nat) (n : Nat) (xs : List Value) : Prop where
  len : xs.length = n * size
  room : n ≤ c
  most : c ≤ maxLen
  nil : a = none → c = 0
  cell : ∀ j u, xs[j]? = some u → ∃ b off, a = some ⟨b, off, none⟩ ∧ w.cell? ⟨b, off + j, none⟩ = some u

def ablk : Option Addr → Option Nat | some a => some a.block | none => none

theorem Sl.kept {w w' : World} {size : Nat} {a : Option Addr} {c n : Nat} {xs : List Value} (h : Sl w size a c n xs)
    (hb : ∀ b, ablk a = some b → b < w.heap.size → w'.heap[b]? = w.heap[b]?) : Sl w' size a c n xs := by
  refine ⟨h.len, h.room, h.most, h.nil, fun j u hj => ?_⟩
  obtain ⟨b, off, rfl, hc⟩ := h.cell j u hj
  have hl : b < w.heap.size := World.block_lt_of_cell? w ⟨b, off + j, none⟩ hc
  exact ⟨b, off, rfl, (World.cell?_of_block (a := ⟨b, off + j, none⟩) (hb b rfl hl)).trans hc⟩

theorem Sl.fr {S : Nat → Prop} {w w' : World} {size : Nat} {a : Option Addr} {c n : Nat} {xs : List Value} (h : Sl w size a c n xs) (hf : Fr S w w')
    (hb : ∀ b, ablk a = some b → ¬ S b) : Sl w' size a c n xs := h.kept fun b e hl => hf.block b hl (hb b e)

theorem Sl.frn {S : Nat → Prop} {w w' : World} {size : Nat} {a : Option Addr} {c n : Nat} {xs : List Value} (h : Sl w size a c n xs) (hf : Fr S w w')
    (hb : xs ≠ [] → ∀ b, ablk a = some b → ¬ S b) : Sl w' size a c n xs := by
  refine ⟨h.len, h.room, h.most, h.nil, fun j u hj => ?_⟩
  have hne : xs ≠ [] := by rintro rfl; simp at hj
  exact (h.fr hf (hb hne)).cell j u hj

theorem Sl.nothing (w : World) (size : Nat) : Sl w size none 0 0 [] := ⟨by simp, Nat.le_refl _, Nat.zero_le _, fun _ => rfl, fun j u h => by simp at h⟩

theorem ablk_own (a : Option Addr) (n c : Nat) : (Value.slice a n c).ownBlock = ablk a := by cases a <;> rfl

theorem Sl.of_own {w : World} {base e size : Nat} {a : Option Addr} {c n m : Nat} {xs : List Value} (h : w.ownsRow base e size (.slice a n c) m xs) : m = n ∧ Sl w size a c n xs := by
  obtain ⟨hl, h⟩ := h
  rcases h with ⟨h, rfl⟩ | ⟨g, cap, cur, h, _, hg, hn, hm, hs, ht⟩
  · simp only [Value.slice.injEq] at h
    obtain ⟨rfl, rfl, rfl⟩ := h
    exact ⟨rfl, by simpa using hl, Nat.le_refl _, Nat.zero_le _, fun _ => rfl, fun j u hj => by
      have : xs = [] := List.eq_nil_of_length_eq_zero (by simpa using hl)
      subst this; simp at hj⟩
  · simp only [Value.slice.injEq] at h
    obtain ⟨rfl, rfl, rfl⟩ := h
    refine ⟨rfl, hl, hn, hm, fun h => by simp at h, fun j u hj => ⟨g, 0, rfl, ?_⟩⟩
    rw [Nat.zero_add, cell_of_row w g j cur e (0, 0) hg]
    rw [← ht, List.getElem?_take] at hj
    split at hj
    · simpa using hj
    · cases hj

/-- The value that owns a row is a slice. -/
theorem own_slice {w : World} {base e size : Nat} {v : Value} {n : Nat} {xs : List Value} (h : w.ownsRow base e size v n xs) : ∃ a c, v = .slice a n c := by
  rcases h.2 with ⟨rfl, rfl⟩ | ⟨g, cap, cur, rfl, _⟩
  · exact ⟨none, 0, rfl⟩
  · exact ⟨_, _, rfl⟩

theorem Sl.addr {w : World} {size : Nat} {a : Addr} {c n : Nat} {xs : List Value} (h : Sl w size (some a) c n xs) : ∀ j u, xs[j]? = some u → w.cell? (a.add j) = some u := by
  intro j u hj
  obtain ⟨b, off, e, hc⟩ := h.cell j u hj
  simp only [Option.some.injEq] at e
  subst e
  rw [Addr.add_lit]
  exact hc

/-- 'append(s, x...)', s nothing or a row of the call's own, x any slice that is read. -/
theorem run_app {P : Program} {w : World} (t ty e : TypeId) (i : TypeInfo) (z : Value) (size bytes : Nat) (ht : P.underlying t = some (.slice e)) (hi : P.info? e = some i) (hz : i.zero = some z)
    (hsize : i.size = size) (hby : i.bytes = bytes) (hzs : z.cells.size = size) (hsz : 0 < size)
    (v : Value) (n : Nat) (xs : List Value) (hown : w.ownsRow 0 e size v n xs) (a : Option Addr) (c m : Nat) (news : List Value) (hs : Sl w size a c m news) (h1 : ∀ u ∈ news, u.oneCell' = true)
    (h63 : n + m ≤ maxLen) (hbytes : (n + m) * bytes ≤ 140737488355328) :
    ∃ v' w', (Builtin.append_ #[t, t] ty #[v, .slice a m c]).run P w = .ok v' w' ∧ w'.ownsRow 0 e size v' (n + m) (xs ++ news) ∧ w.grownBy w' v.ownBlock ∧
      ∀ k, v'.ownBlock = some k → v.ownBlock = some k ∨ w.heap.size ≤ k := by
  cases a with
  | none =>
    have hc := hs.nil rfl
    have hm : m = 0 := by have := hs.room; omega
    subst hc hm
    have hn : news = [] := List.eq_nil_of_length_eq_zero (by simpa using hs.len)
    subst hn
    refine ⟨v, w, run_append_owned_none w 0 t ty e i size ht hi v n xs hown, by simpa using hown, ⟨rfl, rfl, rfl, Nat.le_refl _, fun _ _ _ => rfl⟩, fun k hk => .inl hk⟩
  | some a =>
    obtain ⟨v', w', h, h', h'', _⟩ := run_append_own (P := P) w 0 t ty e i z size bytes ht hi hz hsize hby hzs hsz v n xs hown a m c news hs.len hs.addr h1 h63 hbytes (Nat.zero_le _)
    refine ⟨v', w', h, h', h'', fun k hk => ?_⟩
    subst hsize
    subst hby
    have hsmall : n + m ≤ 9223372036854775807 := by simp only [maxLen] at h63; omega
    by_cases hm : m = 0
    · subst hm
      have hn : news = [] := List.eq_nil_of_length_eq_zero (by simpa using hs.len)
      subst hn
      rcases hown.2 with ⟨rfl, rfl⟩ | ⟨g, cap, cur, rfl, hbg, hg, hnc, hcm, hcs, htake⟩
      · have hr : (Builtin.append_ #[t, t] ty #[.slice none 0 0, .slice (some a) 0 c]).run P w = .ok (.slice none 0 0) w := by
          simp [Builtin.append_, run_underlying ht, sizeOf, typeInfo, hi, Builtin.lenOf, Builtin.firstCells, loadCells, loadCellsFrom]
        rw [hr] at h
        cases h
        simp [Value.ownBlock] at hk
      · have hr := run_append_room (P := P) w t ty e i ht hi g n cap cur hg a 0 c [] hs.len hs.addr h1 (by omega) (by rw [hcs]; simp; exact Nat.mul_le_mul_right _ hnc)
        rw [hr] at h
        cases h
        exact .inl hk
    · rcases hown.2 with ⟨rfl, rfl⟩ | ⟨g, cap, cur, rfl, hbg, hg, hnc, hcm, hcs, htake⟩
      · have hr := run_append_nil (P := P) w t ty e i z ht hi hz a m c news hs.len hs.addr (by omega) (by omega) (by simp at hbytes; omega)
        rw [hr] at h
        cases h
        simp [Value.ownBlock] at hk
        exact .inr (by omega)
      · by_cases hroom : n + m ≤ cap
        · have hr := run_append_room (P := P) w t ty e i ht hi g n cap cur hg a m c news hs.len hs.addr h1 hroom (by rw [hs.len, hcs, ← Nat.add_mul]; exact Nat.mul_le_mul_right _ hroom)
          rw [hr] at h
          cases h
          exact .inl hk
        · have hr := run_append_grow (P := P) w t ty e i z ht hi hz ⟨g, 0, none⟩ n cap xs hown.1 (hown.cells (g := g) rfl) a m c news hs.len hs.addr (by omega) (by omega) (growslice_fits (by omega) hbytes)
          rw [hr] at h
          cases h
          simp [Value.ownBlock] at hk
          exact .inr (by omega)

theorem wpList_app {P : Program} {w : World} {ops : Array Oper} {rest : List Oper} {o : Oper} {a : Act} {Q : Exit → Act → World → Prop} (hgd : o.guard = none) (s x : Operand) (t : TypeId)
    (ho : o.op = .call { callee := .builtin .append, args := #[s, x], argTypes := #[t, t] })
    (e : TypeId) (i : TypeInfo) (z : Value) (size bytes : Nat) (ht : P.underlying t = some (.slice e)) (hi : P.info? e = some i) (hz : i.zero = some z)
    (hsize : i.size = size) (hby : i.bytes = bytes) (hzs : z.cells.size = size) (hsz : 0 < size)
    (v : Value) (n : Nat) (xs : List Value) (hs : a.eval s = v) (hown : w.ownsRow 0 e size v n xs)
    (ad : Option Addr) (c m : Nat) (news : List Value) (hx : a.eval x = .slice ad m c) (hsl : Sl w size ad c m news) (h1 : ∀ u ∈ news, u.oneCell' = true)
    (h63 : n + m ≤ maxLen) (hbytes : (n + m) * bytes ≤ 140737488355328)
    (h : ∀ a' c' w', w'.ownsRow 0 e size (.slice a' (n + m) c') (n + m) (xs ++ news) → w.grownBy w' v.ownBlock → (∀ k, ablk a' = some k → v.ownBlock = some k ∨ w.heap.size ≤ k) → wpList P ops Q rest (a.put o.dst (.slice a' (n + m) c')) w') : wpList P ops Q (o :: rest) a w := by
  refine wpList_plain hgd fun K hK => ?_
  obtain ⟨v', w', hr, h2, h3, h4⟩ := run_app (P := P) t o.type e i z size bytes ht hi hz hsize hby hzs hsz v n xs hown ad c m news hsl h1 h63 hbytes
  obtain ⟨a', c', rfl⟩ := own_slice h2
  unfold Oper.wp execOp
  simp only [ho, resolve, invoke, builtin, Sem.run_bind, Sem.run_pure, Result.andThen_ok, List.map_toArray, List.map_cons, List.map_nil, hs, hx, hr]
  exact hK _ _ (h a' c' w' h2 h3 (by simpa [ablk_own] using h4))

@[go_sem] theorem run_eql_slice_nil_g {P : Program} (w : World) (t : TypeId) (a : Option Addr) (n c : Nat) (h : P.underlying t = some (.slice (P.elem t))) :
    (binOp .eql t (.slice a n c) (.slice none 0 0)).run P w = .ok (.bool a.isNone) w := Lib.run_eql_slice_nil w t _ a n c 0 0 h

@[go_sem] theorem run_neq_slice_nil_g {P : Program} (w : World) (t : TypeId) (a : Option Addr) (n c : Nat) (h : P.underlying t = some (.slice (P.elem t))) :
    (binOp .neq t (.slice a n c) (.slice none 0 0)).run P w = .ok (.bool (!a.isNone)) w := by
  have := Lib.run_eql_slice_nil w t _ a n c 0 0 h
  simp only [binOp] at this ⊢
  cases hq : (Op.equal t (.slice a n c) (.slice none 0 0)).run P w with
  | ok v w' => simp_all
  | halt x w' => simp_all

/-! ### bytes -/

/-- A byte as a value. -/
def B8 (x : UInt8) : Value := .int .u8 x.toNat

/-- A slice of bytes that is read. -/
def Bs (w : World) (a : Option Addr) (c : Nat) (bs : List UInt8) : Prop := Sl w 1 a c bs.length (bs.map B8)

theorem Bs.at {w : World} {a : Option Addr} {c : Nat} {bs : List UInt8} (h : Bs w a c bs) (j : Nat) (hj : j < bs.length) : ∃ b off, a = some ⟨b, off, none⟩ ∧ w.cell? ⟨b, off + j, none⟩ = some (.int .u8 bs[j].toNat) :=
  h.cell j (B8 bs[j]) (by simp [List.getElem?_map, List.getElem?_eq_getElem hj])

/-- The cells of bytes that are some. -/
theorem Bs.cells {w : World} {a : Option Addr} {c : Nat} {bs : List UInt8} (h : Bs w a c bs) (hne : bs ≠ []) : ∃ b off, a = some ⟨b, off, none⟩ ∧ ∀ j (hj : j < bs.length), w.cell? ⟨b, off + j, none⟩ = some (.int .u8 bs[j].toNat) := by
  obtain ⟨b, off, e, _⟩ := h.at 0 (List.length_pos_iff.2 hne)
  refine ⟨b, off, e, fun j hj => ?_⟩
  obtain ⟨b', off', e', hc⟩ := h.at j hj
  rw [e] at e'
  simp only [Option.some.injEq, Addr.mk.injEq, and_true] at e'
  obtain ⟨rfl, rfl⟩ := e'
  exact hc

theorem Bs.nothing (w : World) : Bs w none 0 [] := Sl.nothing w 1

theorem Bs.of_own {w : World} {base e : Nat} {a : Option Addr} {c n m : Nat} {bs : List UInt8} (h : w.ownsRow base e 1 (.slice a n c) m (bs.map B8)) : m = n ∧ n = bs.length ∧ Bs w a c bs := by
  obtain ⟨rfl, hs⟩ := Sl.of_own h
  have hl := hs.len
  simp at hl
  subst hl
  exact ⟨rfl, rfl, hs⟩

theorem Bs.one {bs : List UInt8} : ∀ u ∈ bs.map B8, u.oneCell' = true := by
  intro u hu
  simp only [List.mem_map] at hu
  obtain ⟨x, _, rfl⟩ := hu
  rfl

def strOf (bs : List UInt8) : ByteArray := ⟨bs.toArray⟩

theorem strOf_toList (bs : List UInt8) : (strOf bs).toList = bs := by
  rw [ByteArray.toList_eq]; simp [strOf]

theorem strOf_size (bs : List UInt8) : (strOf bs).size = bs.length := by simp [strOf, ByteArray.size]

theorem strOf_append (a b : List UInt8) : strOf a ++ strOf b = strOf (a ++ b) := by
  apply ByteArray.ext
  simp [strOf]

/-- 'string(b)'. -/
theorem run_str {P : Program} {w : World} (src dst e : TypeId) (hs : P.underlying src = some (.slice e)) (he : P.underlying e = some (.int .u8)) (hd : P.underlying dst = some .string)
    {a : Option Addr} {c : Nat} {bs : List UInt8} (h : Bs w a c bs) (n : Nat) (hn : n = bs.length) : (convert src dst (.slice a n c)).run P w = .ok (.string (strOf bs)) w := by
  subst hn
  cases a with
  | none =>
    have := h.nil rfl
    have : bs = [] := List.eq_nil_of_length_eq_zero (by have := h.room; omega)
    subst this
    exact run_convert_bytes_nil w src e hs he _ c dst hd
  | some a => exact run_convert_bytes_back w src dst e a c bs hs he hd fun j hj => h.addr j (B8 bs[j]) (by simp [List.getElem?_map, List.getElem?_eq_getElem hj])
end Go.Proofs.Ytkaoadijijahhaa

/- Whole rows of cells by value, and rows that hold a number, word by word. Nothing here speaks of the program. -/
namespace Go.Proofs.Ytkaoadijijahhaa
set_option maxRecDepth 100000
set_option linter.unusedVariables false
set_option linter.unusedSimpArgs false
open Go.RowKit

/-! ### whole rows -/

/-- 'load', 'store' of a whole row: behind a name that the walk does not open. -/
def loadRowAt (t : TypeId) (p : Value) : Sem Value := Instr.loadAt t p
def storeRowAt (t : TypeId) (p v : Value) : Sem Unit := Instr.storeAt t p v

def rowOut (P : Program) (t : TypeId) (p : Value) (w : World) (n : Nat) : Option Obj → Result Value
  | some (.cells cs _ _) => if cs.size = n then .ok (.agg cs) w else (Instr.loadAt t p).run P w
  | _ => (Instr.loadAt t p).run P w

theorem rowOut_cells {P : Program} {t : TypeId} {p : Value} {w : World} {n : Nat} {cs : Array Value} {t' : TypeId} {fr : Nat × Nat} (h : cs.size = n) :
    rowOut P t p w n (some (.cells cs t' fr)) = .ok (.agg cs) w := if_pos h

theorem run_loadRowAt {P : Program} (w : World) (t : TypeId) (g n : Nat) (d : TypeDesc) (hu : P.underlying t = some d) (hd : (match d with | .struct _ | .array _ _ => true | _ => false) = true) (hi : (P.info? t).map (·.size) = some n) :
    (loadRowAt t (.pointer (some ⟨g, 0, none⟩))).run P w = rowOut P t (.pointer (some ⟨g, 0, none⟩)) w n w.heap[g]? := by
  cases hg : w.heap[g]? with
  | none => rfl
  | some o =>
    cases o with
    | cells cs t' fr =>
      by_cases h : cs.size = n
      · rw [rowOut_cells h]
        show (Instr.loadAt t (.pointer (some ⟨g, 0, none⟩))).run P w = _
        simp only [Instr.loadAt, Instr.sureAddr, Sem.run_bind, Sem.run_pure, Result.andThen_ok]
        exact run_loadVar_row w g t' t cs fr d hg hu hd (by rw [hi, h])
      · simp [rowOut, h, loadRowAt]
    | _ => rfl

/-- All cells bear one value each. -/
def rowOne (cells : Array Value) : Prop := cells.all (·.oneCell') = true

def rowIn (P : Program) (t : TypeId) (p : Value) (cells : Array Value) (g : Nat) (w : World) (n : Nat) : Option Obj → Result Unit
  | some (.cells old _ fr) => if fr = (0, 0) ∧ old.size = n ∧ cells.size = n ∧ cells.all (·.oneCell') = true then .ok () (w.setRow g cells) else (Instr.storeAt t p (.agg cells)).run P w
  | _ => (Instr.storeAt t p (.agg cells)).run P w

theorem rowIn_cells {P : Program} {t : TypeId} {p : Value} {cells : Array Value} {g : Nat} {w : World} {n : Nat} {old : Array Value} {t' : TypeId} (h : old.size = n) (h1 : cells.size = n) (h2 : rowOne cells) :
    rowIn P t p cells g w n (some (.cells old t' (0, 0))) = .ok () (w.setRow g cells) := if_pos ⟨rfl, h, h1, h2⟩

theorem run_storeRowAt {P : Program} (w : World) (t : TypeId) (g n : Nat) (cells : Array Value) (hi : (P.info? t).map (·.size) = some n) :
    (storeRowAt t (.pointer (some ⟨g, 0, none⟩)) (.agg cells)).run P w = rowIn P t (.pointer (some ⟨g, 0, none⟩)) cells g w n w.heap[g]? := by
  cases hg : w.heap[g]? with
  | none => rfl
  | some o =>
    cases o with
    | cells old t' fr =>
      by_cases h : fr = (0, 0) ∧ old.size = n ∧ cells.size = n ∧ cells.all (·.oneCell') = true
      · obtain ⟨rfl, h1, h2, h3⟩ := h
        rw [rowIn_cells h1 h2 h3]
        show (Instr.storeAt t (.pointer (some ⟨g, 0, none⟩)) (.agg cells)).run P w = _
        simp only [Instr.storeAt, Instr.sureAddr, Sem.run_bind, Sem.run_pure, Result.andThen_ok]
        exact run_storeVar_row w g t' t old cells hg (by rw [hi, h2]) (by rw [h1, h2]) h3
      · simp only [rowIn, h, if_false]
        rfl
    | _ => rfl

/-! ### the heap behind an allocation, a store, a draw -/

def Obj.withRow (cs : Array Value) : Obj → Obj
  | .cells _ t fr => .cells cs t fr
  | o => o
def Obj.withCell (i : Nat) (v : Value) : Obj → Obj
  | .cells cs t fr => .cells (cs.setIfInBounds i v) t fr
  | o => o

theorem heap_setRow_at (w : World) (g : Nat) (cs : Array Value) : (w.setRow g cs).heap[g]? = (w.heap[g]?).map (Obj.withRow cs) := by
  simp only [World.setRow, Array.getElem?_modify, if_true]
  try congr 1
  try (funext o; cases o <;> rfl)

theorem heap_setRow_ne (w : World) (g k : Nat) (cs : Array Value) (h : k ≠ g) : (w.setRow g cs).heap[k]? = w.heap[k]? := setRow_other w g k cs h

theorem heap_setCell_at (w : World) (g i : Nat) (v : Value) : (w.setCell ⟨g, i, none⟩ v).heap[g]? = (w.heap[g]?).map (Obj.withCell i v) := by
  simp only [World.setCell, Array.getElem?_modify, if_true]
  try congr 1
  try (funext o; cases o <;> rfl)

theorem heap_setCell_ne' (w : World) (g i k : Nat) (v : Value) (h : k ≠ g) : (w.setCell ⟨g, i, none⟩ v).heap[k]? = w.heap[k]? := Below.heap_setCell _ _ _ _ h

theorem withRow_cells (cs c : Array Value) (t : TypeId) (fr : Nat × Nat) : Option.map (Obj.withRow cs) (some (.cells c t fr)) = some (.cells cs t fr) := rfl
theorem withCell_cells (i : Nat) (v : Value) (c : Array Value) (t : TypeId) (fr : Nat × Nat) : Option.map (Obj.withCell i v) (some (.cells c t fr)) = some (.cells (c.setIfInBounds i v) t fr) := rfl

def Obj.cellAt (i : Nat) : Option Obj → Option Value
  | some (.cells cs _ _) => cs[i]?
  | _ => none
theorem cellAt_cells (i : Nat) (cs : Array Value) (t : TypeId) (fr : Nat × Nat) : Obj.cellAt i (some (.cells cs t fr)) = cs[i]? := rfl
theorem cell_at (w : World) (g i : Nat) : w.cell? ⟨g, i, none⟩ = Obj.cellAt i w.heap[g]? := by
  simp only [World.cell?]
  cases w.heap[g]? with
  | none => rfl
  | some o => cases o <;> rfl

def Obj.frozenAt (i : Nat) : Option Obj → Bool
  | some (.cells _ _ (lo, hi)) => lo ≤ i && i < hi
  | _ => false
theorem frozenAt_cells (i : Nat) (cs : Array Value) (t : TypeId) : Obj.frozenAt i (some (.cells cs t (0, 0))) = false := by simp [Obj.frozenAt]
theorem frozen_at (w : World) (g i : Nat) : w.frozen? ⟨g, i, none⟩ = Obj.frozenAt i w.heap[g]? := by
  simp only [World.frozen?]
  cases w.heap[g]? with
  | none => rfl
  | some o => cases o <;> rfl

theorem heap_drew' (w : World) : w.drew.heap = w.heap := rfl

theorem Fr.setRow {S : Nat → Prop} {a w : World} (h : Fr S a w) {g : Nat} (hp : g < a.heap.size → S g) (cs : Array Value) : Fr S a (w.setRow g cs) :=
  h.trans (T := fun k => k = g) ⟨rfl, rfl, rfl, by simp, fun k _ hk => setRow_other w g k cs hk⟩ fun i hi e => by subst e; exact hp hi

theorem allocs_old (L : List Obj) : ∀ (w : World) (k : Nat), k < w.heap.size → (L.foldl World.alloc w).heap[k]? = w.heap[k]? := by
  induction L with
  | nil => intro w k _; rfl
  | cons A L ih =>
    intro w k hk
    rw [List.foldl_cons, ih _ _ (by simp; omega)]
    exact heap_alloc_old _ _ hk

/-- What a row of allocations has laid. -/
theorem heap_allocs (L : List Obj) : ∀ (w : World) (j : Nat), j < L.length → (L.foldl World.alloc w).heap[w.heap.size + j]? = L[j]? := by
  induction L with
  | nil => intro w j h; simp at h
  | cons A L ih =>
    intro w j h
    rw [List.foldl_cons]
    cases j with
    | zero =>
      rw [Nat.add_zero, allocs_old L _ _ (by simp)]
      exact heap_alloc_new w A
    | succ j =>
      have := ih (w.alloc A) j (by simpa using h)
      rw [World.size_alloc] at this
      rw [show w.heap.size + (j + 1) = w.heap.size + 1 + j by omega, this]
      rfl

theorem Fr.allocs {S : Nat → Prop} {a : World} (L : List Obj) : ∀ {w : World}, Fr S a w → Fr S a (L.foldl World.alloc w) := by
  induction L with
  | nil => intro w h; exact h
  | cons A L ih => intro w h; exact ih (h.alloc A)

theorem size_allocs (L : List Obj) : ∀ (w : World), (L.foldl World.alloc w).heap.size = w.heap.size + L.length := by
  induction L with
  | nil => intro w; rfl
  | cons A L ih => intro w; rw [List.foldl_cons, ih, World.size_alloc, List.length_cons]; omega

theorem keep_alloc {w : World} {o : Obj} {k : Nat} {x : Obj} (h : w.heap[k]? = some x) : (w.alloc o).heap[k]? = some x := by
  rw [heap_alloc_old _ _ (Array.getElem?_eq_some_iff.1 h).1]; exact h
theorem keep_fr {w w' : World} {k : Nat} {x : Obj} (f : Fr F0 w w') (h : w.heap[k]? = some x) : w'.heap[k]? = some x := f.keeps (fun f => f) h
theorem keep_row {w : World} {g : Nat} {c : Array Value} {k : Nat} {x : Obj} (hk : k ≠ g) (h : w.heap[k]? = some x) : (w.setRow g c).heap[k]? = some x := by rw [heap_setRow_ne _ _ _ _ hk]; exact h
theorem keep_drew {w : World} {k : Nat} {x : Obj} (h : w.heap[k]? = some x) : w.drew.heap[k]? = some x := h
theorem new_row {w : World} {g : Nat} {c : Array Value} {z : Array Value} {t : TypeId} {f : Nat × Nat} (h : w.heap[g]? = some (.cells z t f)) : (w.setRow g c).heap[g]? = some (.cells c t f) := by
  rw [heap_setRow_at, h]; rfl
theorem rowIn_of {P : Program} {t : TypeId} {p : Value} {cells : Array Value} {g : Nat} {w : World} {n : Nat} {old : Array Value} {t' : TypeId} {o : Option Obj} (ho : o = some (.cells old t' (0, 0))) (h : old.size = n) (h1 : cells.size = n) (h2 : rowOne cells) :
    rowIn P t p cells g w n o = .ok () (w.setRow g cells) := by subst ho; exact rowIn_cells h h1 h2
theorem rowOut_of {P : Program} {t : TypeId} {p : Value} {w : World} {n : Nat} {cs : Array Value} {t' : TypeId} {fr : Nat × Nat} {o : Option Obj} (ho : o = some (.cells cs t' fr)) (h : cs.size = n) :
    rowOut P t p w n o = .ok (.agg cs) w := by subst ho; exact rowOut_cells h

/-- A new row, laid and filled. -/
structure NewRow (w W : World) (g : Nat) (c : Array Value) (t : TypeId) : Prop where
  new : W.heap[g]? = some (.cells c t (0, 0))
  old : ∀ {k : Nat} {o : Obj}, w.heap[k]? = some o → W.heap[k]? = some o
  fr : Fr F0 w W
  ne : ∀ {k : Nat} {o : Obj}, w.heap[k]? = some o → k ≠ g

theorem put_new (w : World) (z c : Array Value) (t : TypeId) : NewRow w ((w.alloc (.cells z t)).setRow w.heap.size c) w.heap.size c t :=
  ⟨new_row (heap_alloc_new _ _), fun h => keep_row (by have := (Array.getElem?_eq_some_iff.1 h).1; omega) (keep_alloc h), ((Fr.refl F0 w).alloc _).setRow (fun h => by omega) _, fun h => by have := (Array.getElem?_eq_some_iff.1 h).1; omega⟩

/-! ### a number's words -/

/-- The i-th word of b bits. -/
def dgt (b x i : Nat) : Nat := x / 2 ^ (b * i) % 2 ^ b

theorem dgt_lt (b x i : Nat) : dgt b x i < 2 ^ b := Nat.mod_lt _ (Nat.two_pow_pos b)

/-- n cells that hold a number, the lowest word first. -/
def rowN (k : IntKind) (b n x : Nat) : Array Value := ((List.range n).map fun i => Value.int k (dgt b x i : Nat)).toArray

theorem rowN_size (k : IntKind) (b n x : Nat) : (rowN k b n x).size = n := by simp [rowN]

theorem rowN_one (k : IntKind) (b n x : Nat) : (rowN k b n x).all (·.oneCell') = true := by
  rw [Array.all_eq_true_iff_forall_mem]
  intro v hv
  simp only [rowN, List.mem_toArray, List.mem_map] at hv
  obtain ⟨i, _, rfl⟩ := hv
  rfl

theorem rowN_get (k : IntKind) (b n x i : Nat) (h : i < n) : (rowN k b n x)[i]? = some (.int k (dgt b x i : Nat)) := by
  simp [rowN, h]

theorem rowN_rowOne (k : IntKind) (b n x : Nat) : rowOne (rowN k b n x) := rowN_one k b n x

theorem rowN_getElem (k : IntKind) (b n x i : Nat) (h : i < (rowN k b n x).size) : (rowN k b n x)[i] = .int k (dgt b x i : Nat) := by
  simp [rowN]

/-- 'x[i]' of a row that is a value. -/
theorem run_index_row {P : Program} (w : World) (t e : TypeId) (n : Nat) (cs : Array Value) (k : IntKind) (i : Nat) (d : TypeDesc) (hu : P.underlying t = some (.array n e)) (he : P.underlying e = some d) (hd : (match d with | .struct _ | .array _ _ => true | _ => false) = false)
    (hi : (P.info? e).map (·.size) = some 1) (v : Value) (h1 : i < n) (hv : cs[i]? = some v) :
    (Instr.index t (.agg cs) (.int k (i : Int))).run P w = .ok v w := by
  cases hq : P.info? e with
  | none => simp [hq] at hi
  | some io =>
    have hs : io.size = 1 := by simpa [hq] using hi
    have hagg : (isAgg e).run P w = .ok false w := by
      unfold isAgg
      rw [Sem.run_bind, run_underlying he w]
      cases d <;> simp_all
    have h0 : (0 : Int) ≤ i ∧ (i : Int) < n := ⟨by omega, by omega⟩
    simp [Instr.index, asIntOf, Sem.run_bind, run_underlying hu w, h0, sizeOf, typeInfo, hq, hs, part, hagg, hv]
    try omega

/-- The number with its i-th word turned. -/
def putw (b z i v : Nat) : Nat := z % 2 ^ (b * i) + 2 ^ (b * i) * (v + 2 ^ b * (z / 2 ^ (b * (i + 1))))

theorem dgt_below (b x y i j : Nat) (h : j < i) (e : x % 2 ^ (b * i) = y % 2 ^ (b * i)) : dgt b x j = dgt b y j := by
  have key : ∀ z, dgt b z j = dgt b (z % 2 ^ (b * i)) j := by
    intro z
    obtain ⟨d, rfl⟩ : ∃ d, i = j + 1 + d := ⟨i - (j + 1), by omega⟩
    have e1 : 2 ^ (b * (j + 1 + d)) = 2 ^ (b * j) * (2 ^ b * 2 ^ (b * d)) := by
      rw [← Nat.pow_add, ← Nat.pow_add]; congr 1; simp [Nat.mul_add]; omega
    simp only [dgt]
    rw [e1, Nat.mod_mul_right_div_self, Nat.mod_mul_right_mod]
  rw [key x, key y, e]

theorem putw_mod (b z i v : Nat) : putw b z i v % 2 ^ (b * i) = z % 2 ^ (b * i) := by
  simp [putw, Nat.add_mul_mod_self_left]

theorem putw_div (b z i v : Nat) : putw b z i v / 2 ^ (b * i) = v + 2 ^ b * (z / 2 ^ (b * (i + 1))) := by
  rw [putw, Nat.add_mul_div_left _ _ (Nat.two_pow_pos _), Nat.div_eq_of_lt (Nat.mod_lt _ (Nat.two_pow_pos _)), Nat.zero_add]

theorem putw_dgt (b z i v j : Nat) (hv : v < 2 ^ b) : dgt b (putw b z i v) j = if j = i then v else dgt b z j := by
  by_cases h : j = i
  · subst h
    rw [if_pos rfl, dgt, putw_div, Nat.add_mul_mod_self_left, Nat.mod_eq_of_lt hv]
  · rw [if_neg h]
    by_cases h2 : j < i
    · exact dgt_below b _ _ i j h2 (putw_mod b z i v)
    · obtain ⟨d, rfl⟩ : ∃ d, j = i + 1 + d := ⟨j - (i + 1), by omega⟩
      have e1 : 2 ^ (b * (i + 1 + d)) = 2 ^ (b * i) * (2 ^ b * 2 ^ (b * d)) := by
        rw [← Nat.pow_add, ← Nat.pow_add]; congr 1; simp [Nat.mul_add]; omega
      have e2 : 2 ^ (b * (i + 1)) = 2 ^ (b * i) * 2 ^ b := by rw [← Nat.pow_add]; congr 1
      simp only [dgt]
      congr 1
      rw [e1, ← Nat.div_div_eq_div_mul, putw_div, ← Nat.div_div_eq_div_mul, Nat.add_mul_div_left _ _ (Nat.two_pow_pos _), Nat.div_eq_of_lt hv, Nat.zero_add, e2, ← Nat.div_div_eq_div_mul, ← Nat.div_div_eq_div_mul, ← Nat.div_div_eq_div_mul, Nat.div_div_eq_div_mul z, ← e2]

theorem rowN_set (k : IntKind) (b n z i v : Nat) (hv : v < 2 ^ b) : (rowN k b n z).setIfInBounds i (.int k (v : Nat)) = rowN k b n (putw b z i v) := by
  apply Array.ext_getElem?
  intro j
  by_cases hj : j < n
  · rw [rowN_get _ _ _ _ _ hj, putw_dgt _ _ _ _ _ hv]
    by_cases h : j = i
    · subst h
      rw [Array.getElem?_setIfInBounds_self_of_lt (by rw [rowN_size]; exact hj), if_pos rfl]
    · rw [Array.getElem?_setIfInBounds_ne (by omega), rowN_get _ _ _ _ _ hj, if_neg h]
  · rw [Array.getElem?_eq_none (by simp [rowN_size]; omega), Array.getElem?_eq_none (by rw [rowN_size]; omega)]

theorem rowN_congr (k : IntKind) (b n x y : Nat) (h : x % 2 ^ (b * n) = y % 2 ^ (b * n)) : rowN k b n x = rowN k b n y := by
  unfold rowN
  congr 1
  apply List.map_congr_left
  intro i hi
  rw [dgt_below b x y n i (List.mem_range.1 hi) h]

theorem rowN_mod (k : IntKind) (b n x : Nat) : rowN k b n (x % 2 ^ (b * n)) = rowN k b n x := rowN_congr _ _ _ _ _ (Nat.mod_mod _ _)

theorem mod_succ (b x n : Nat) : x % 2 ^ (b * (n + 1)) = x % 2 ^ (b * n) + 2 ^ (b * n) * dgt b x n := by
  rw [dgt, show b * (n + 1) = b * n + b by simp [Nat.mul_add], Nat.pow_add, Nat.mod_mul]

theorem mod_of_dgt (b x y : Nat) : ∀ n, (∀ i, i < n → dgt b x i = dgt b y i) → x % 2 ^ (b * n) = y % 2 ^ (b * n)
  | 0, _ => by simp [Nat.mod_one]
  | n + 1, h => by rw [mod_succ, mod_succ, mod_of_dgt b x y n fun i hi => h i (by omega), h n (by omega)]

theorem rowN_inj (k : IntKind) (b n x y : Nat) (h : rowN k b n x = rowN k b n y) : x % 2 ^ (b * n) = y % 2 ^ (b * n) := by
  refine mod_of_dgt b x y n fun i hi => ?_
  have := congrArg (·[i]?) h
  simp only [rowN_get _ _ _ _ _ hi, Option.some.injEq, Value.int.injEq, true_and] at this
  exact Int.ofNat.inj this

/-- A row whose words are given is a number's. -/
def ofDgts (b : Nat) (f : Nat → Nat) : Nat → Nat
  | 0 => 0
  | n + 1 => ofDgts b f n + 2 ^ (b * n) * f n

theorem ofDgts_lt (b : Nat) (f : Nat → Nat) : ∀ n, (∀ i, i < n → f i < 2 ^ b) → ofDgts b f n < 2 ^ (b * n)
  | 0, _ => by simp [ofDgts]
  | n + 1, h => by
    have h1 := ofDgts_lt b f n fun i hi => h i (by omega)
    have h2 := h n (by omega)
    rw [ofDgts, show b * (n + 1) = b * n + b by simp [Nat.mul_add], Nat.pow_add]
    have : 2 ^ (b * n) * (f n + 1) ≤ 2 ^ (b * n) * 2 ^ b := Nat.mul_le_mul_left _ h2
    rw [Nat.mul_add] at this
    omega

theorem dgt_ofDgts (b : Nat) (f : Nat → Nat) : ∀ n, (∀ i, i < n → f i < 2 ^ b) → ∀ i, i < n → dgt b (ofDgts b f n) i = f i
  | 0, _, i, hi => by omega
  | n + 1, h, i, hi => by
    have h1 := ofDgts_lt b f n fun i hi => h i (by omega)
    by_cases e : i = n
    · subst e
      rw [dgt, ofDgts, Nat.add_mul_div_left _ _ (Nat.two_pow_pos _), Nat.div_eq_of_lt h1, Nat.zero_add, Nat.mod_eq_of_lt (h i (by omega))]
    · rw [← dgt_ofDgts b f n (fun i hi => h i (by omega)) i (by omega)]
      refine dgt_below b _ _ n i (by omega) ?_
      rw [ofDgts, Nat.add_mul_mod_self_left]

theorem putw_new (b z i v : Nat) (hz : z < 2 ^ (b * i)) : putw b z i v = z + 2 ^ (b * i) * v := by
  have e2 : 2 ^ (b * (i + 1)) = 2 ^ (b * i) * 2 ^ b := by rw [← Nat.pow_add]; congr 1
  rw [putw, Nat.mod_eq_of_lt hz, Nat.div_eq_of_lt, Nat.mul_zero, Nat.add_zero]
  rw [e2]
  exact Nat.lt_of_lt_of_le hz (Nat.le_mul_of_pos_right _ (Nat.two_pow_pos b))
/-- A result that is one cell, an integer. -/
theorem res_cell1 {P : Program} {fn : Func} {p : Tmp} {ty : TypeId} {k : IntKind} (h : fn.results = #[.cell p ty]) (tmps : Array Value) (w : World) (g : Nat) (v : Value)
    (hp : tmps.getD p undef = .pointer (some ⟨g, 0, none⟩)) (hc : w.cell? ⟨g, 0, none⟩ = some v) (hu : P.underlying ty = some (.int k)) : (results fn tmps).run P w = .ok v w := by
  have hp' : tmps[p]?.getD undef = .pointer (some ⟨g, 0, none⟩) := by simpa using hp
  have hagg : (isAgg ty).run P w = .ok false w := by
    unfold isAgg
    rw [Sem.run_bind, run_underlying hu w]
    rfl
  simp [results, h, hp', asAddr, loadVar, Sem.run_bind, hagg, hc]

/-! ### two numbers' rows, held against each other -/
def rowEq (m x y : Nat) : Bool := decide (x % 2 ^ m = y % 2 ^ m)

theorem run_eqItems_rowN {P : Program} (w : World) (e : TypeId) (k : IntKind) (d : Nat) (hp : P.plainKey e = true) (he : P.underlying e = some (.int k)) (b n x y : Nat) :
    ∀ is : List Nat, (∀ i ∈ is, i < n) → (Op.eqItems (d + 1) e 1 (rowN k b n x) (rowN k b n y) is).run P w = .ok (is.all fun i => decide (dgt b x i = dgt b y i)) w
  | [], _ => by simp [Op.eqItems]
  | i :: is, h => by
    have hi := h i (by simp)
    have h1 := run_part_plain w hp (show (rowN k b n x)[i * 1]? = some (.int k (dgt b x i : Nat)) by rw [Nat.mul_one]; exact rowN_get _ _ _ _ _ hi)
    have h2 := run_part_plain w hp (show (rowN k b n y)[i * 1]? = some (.int k (dgt b y i : Nat)) by rw [Nat.mul_one]; exact rowN_get _ _ _ _ _ hi)
    have h4 := run_eqItems_rowN w e k d hp he b n x y is fun j hj => h j (by simp [hj])
    have hall : (List.all (i :: is) fun i => decide (dgt b x i = dgt b y i)) = (decide (dgt b x i = dgt b y i) && List.all is fun i => decide (dgt b x i = dgt b y i)) := rfl
    rw [hall]
    generalize (List.all is fun i => decide (dgt b x i = dgt b y i)) = r at *
    generalize dgt b x i = u at *
    generalize dgt b y i = v at *
    have h3 : (Op.equalIn (d + 1) e (.int k (u : Int)) (.int k (v : Int))).run P w = .ok (decide (u = v)) w := by
      have e1 : ((u : Int) == (v : Int)) = decide (u = v) := by
        by_cases hq : u = v
        · subst hq; simp
        · have h5 : ¬ (u : Int) = (v : Int) := by omega
          rw [decide_eq_false hq]
          exact beq_false_of_ne h5
      rw [← e1]
      simp [Op.equalIn, Sem.run_bind, run_underlying he]
    simp only [Op.eqItems, Sem.run_bind, h1, h2, h3, Result.andThen_ok]
    by_cases hq : u = v
    · simp [hq, h4]
    · simp [hq]

theorem run_eql_rowN {P : Program} (w : World) (t e : TypeId) (k : IntKind) (b n : Nat) (i : TypeInfo) (hu : P.underlying t = some (.array n e)) (hi : P.info? e = some i) (hc : P.cellsOf e = 1) (hp : P.plainKey e = true) (he : P.underlying e = some (.int k)) (x y : Nat) :
    (binOp .eql t (.agg (rowN k b n x)) (.agg (rowN k b n y))).run P w = .ok (.bool (rowEq (b * n) x y)) w := by
  rw [run_eql_struct, run_equalIn_array w 9999 _ _ hu hi, hc, run_eqItems_rowN w e k 9998 hp he b n x y _ (fun j hj => List.mem_range.1 hj)]
  simp only [Result.andThen_ok]
  congr 2
  unfold rowEq
  rw [Bool.eq_iff_iff]
  simp only [List.all_eq_true, List.mem_range, decide_eq_true_eq]
  constructor
  · intro h
    exact mod_of_dgt b x y n h
  · intro h j hj
    exact dgt_below b x y n j hj h

theorem run_neq_rowN {P : Program} (w : World) (t e : TypeId) (k : IntKind) (b n : Nat) (i : TypeInfo) (hu : P.underlying t = some (.array n e)) (hi : P.info? e = some i) (hc : P.cellsOf e = 1) (hp : P.plainKey e = true) (he : P.underlying e = some (.int k)) (x y : Nat) :
    (binOp .neq t (.agg (rowN k b n x)) (.agg (rowN k b n y))).run P w = .ok (.bool (!rowEq (b * n) x y)) w := by
  have := run_eql_rowN w t e k b n i hu hi hc hp he x y
  simp only [binOp] at this ⊢
  cases hq : (Op.equal t (.agg (rowN k b n x)) (.agg (rowN k b n y))).run P w with
  | ok v w' => simp_all
  | halt x w' => simp_all
end Go.Proofs.Ytkaoadijijahhaa

/- Layer 3 (wide): its arithmetic, word by word. Nothing here speaks of the program. -/
namespace Go.Proofs.Ytkaoadijijahhaa
set_option maxRecDepth 100000
set_option linter.unusedVariables false
set_option linter.unusedSimpArgs false

/-- 2 to the power of 256, behind a name. -/
def W256 : Nat := 2 ^ 256
theorem W256_eq : W256 = 2 ^ (64 * 4) := rfl
theorem W256_pos : 0 < W256 := Nat.two_pow_pos 256

def addLo (x y c : Nat) : Nat := (x + y + c) % 2 ^ 64
def addHi (x y c : Nat) : Nat := (x + y + c) / 2 ^ 64
def subLo (x y b : Nat) : Nat := (x + 2 ^ 64 - y - b) % 2 ^ 64
def subHi (x y b : Nat) : Nat := if x < y + b then 1 else 0
def mulLo (x y : Nat) : Nat := x * y % 2 ^ 64
def mulHi (x y : Nat) : Nat := x * y / 2 ^ 64

theorem addLo_lt (x y c : Nat) : addLo x y c < 2 ^ 64 := Nat.mod_lt _ (Nat.two_pow_pos _)
theorem subLo_lt (x y c : Nat) : subLo x y c < 2 ^ 64 := Nat.mod_lt _ (Nat.two_pow_pos _)
theorem mulLo_lt (x y : Nat) : mulLo x y < 2 ^ 64 := Nat.mod_lt _ (Nat.two_pow_pos _)
theorem subHi_le (x y b : Nat) : subHi x y b ≤ 1 := by unfold subHi; split <;> omega
theorem addHi_le {x y c : Nat} (hx : x < 2 ^ 64) (hy : y < 2 ^ 64) (hc : c ≤ 1) : addHi x y c ≤ 1 := by unfold addHi; omega

theorem md_at (P B r q : Nat) (h : r < P) : (r + P * q) % (P * B) = r + P * (q % B) := by
  rw [Nat.mod_mul, Nat.add_mul_mod_self_left, Nat.mod_eq_of_lt h, Nat.add_mul_div_left _ _ (by omega), Nat.div_eq_of_lt h, Nat.zero_add]
theorem dv_at (P B r q : Nat) (h : r < P) : (r + P * q) / (P * B) = q / B := by
  rw [← Nat.div_div_eq_div_mul, Nat.add_mul_div_left _ _ (by omega), Nat.div_eq_of_lt h, Nat.zero_add]
theorem pow_next (i : Nat) : 2 ^ (64 * (i + 1)) = 2 ^ (64 * i) * 2 ^ 64 := by rw [← Nat.pow_add]; congr 1

/-! ### the sum -/
def adT (a b i : Nat) : Nat := a % 2 ^ (64 * i) + b % 2 ^ (64 * i)
def adS (a b i : Nat) : Nat := adT a b i % 2 ^ (64 * i)
def adC (a b i : Nat) : Nat := adT a b i / 2 ^ (64 * i)

theorem adT_succ (a b i : Nat) : adT a b (i + 1) = adS a b i + 2 ^ (64 * i) * (dgt 64 a i + dgt 64 b i + adC a b i) := by
  have h := Nat.mod_add_div (adT a b i) (2 ^ (64 * i))
  have e : adT a b (i + 1) = adT a b i + 2 ^ (64 * i) * (dgt 64 a i + dgt 64 b i) := by
    unfold adT
    rw [mod_succ, mod_succ, Nat.mul_add]
    omega
  rw [e, adS, adC, Nat.mul_add _ _ (adT a b i / _)]
  omega

theorem adS_lt (a b i : Nat) : adS a b i < 2 ^ (64 * i) := Nat.mod_lt _ (Nat.two_pow_pos _)
theorem adS_succ (a b i : Nat) : adS a b (i + 1) = adS a b i + 2 ^ (64 * i) * addLo (dgt 64 a i) (dgt 64 b i) (adC a b i) := by
  show adT a b (i + 1) % _ = _
  rw [adT_succ, pow_next, md_at _ _ _ _ (adS_lt a b i)]
  rfl
theorem adC_succ (a b i : Nat) : adC a b (i + 1) = addHi (dgt 64 a i) (dgt 64 b i) (adC a b i) := by
  show adT a b (i + 1) / _ = _
  rw [adT_succ, pow_next, dv_at _ _ _ _ (adS_lt a b i)]
  rfl
theorem adC_le (a b i : Nat) : adC a b i ≤ 1 := by
  have h1 := Nat.mod_lt a (Nat.two_pow_pos (64 * i))
  have h2 := Nat.mod_lt b (Nat.two_pow_pos (64 * i))
  have : adT a b i < 2 ^ (64 * i) * 2 := by unfold adT; omega
  have := (Nat.div_lt_iff_lt_mul (Nat.two_pow_pos (64 * i))).2 (show adT a b i < 2 * 2 ^ (64 * i) by omega)
  unfold adC
  omega
theorem adS_zero (a b : Nat) : adS a b 0 = 0 := by simp [adS, Nat.mod_one]
theorem adC_zero (a b : Nat) : adC a b 0 = 0 := by simp [adC, adT, Nat.mod_one]
theorem adS_all (a b : Nat) (ha : a < W256) (hb : b < W256) : adS a b 4 = (a + b) % W256 := by
  unfold adS adT
  rw [← W256_eq, Nat.mod_eq_of_lt ha, Nat.mod_eq_of_lt hb]
theorem adC_all (a b : Nat) (ha : a < W256) (hb : b < W256) : (adC a b 4 != 0) = decide (W256 ≤ a + b) := by
  unfold adC adT
  rw [← W256_eq, Nat.mod_eq_of_lt ha, Nat.mod_eq_of_lt hb]
  by_cases h : W256 ≤ a + b
  · have : 0 < (a + b) / W256 := Nat.div_pos h W256_pos
    simp only [h, decide_true]
    exact bne_iff_ne.2 (by omega)
  · rw [Nat.div_eq_of_lt (by omega)]
    simp [h]

/-! ### the difference -/
def sbT (a b i : Nat) : Nat := a % 2 ^ (64 * i) + 2 ^ (64 * i) - b % 2 ^ (64 * i)
def sbS (a b i : Nat) : Nat := sbT a b i % 2 ^ (64 * i)
def sbC (a b i : Nat) : Nat := if a % 2 ^ (64 * i) < b % 2 ^ (64 * i) then 1 else 0

theorem sbS_lt (a b i : Nat) : sbS a b i < 2 ^ (64 * i) := Nat.mod_lt _ (Nat.two_pow_pos _)
theorem sbC_le (a b i : Nat) : sbC a b i ≤ 1 := by unfold sbC; split <;> omega

theorem sb_eq (a b i : Nat) : a % 2 ^ (64 * i) + 2 ^ (64 * i) * sbC a b i = b % 2 ^ (64 * i) + sbS a b i := by
  have h1 := Nat.mod_lt a (Nat.two_pow_pos (64 * i))
  have h2 := Nat.mod_lt b (Nat.two_pow_pos (64 * i))
  unfold sbC sbS sbT
  generalize a % 2 ^ (64 * i) = x at *
  generalize b % 2 ^ (64 * i) = y at *
  generalize 2 ^ (64 * i) = P at *
  split
  · rw [Nat.mod_eq_of_lt (by omega)]; omega
  · rw [show x + P - y = x - y + P by omega, Nat.add_mod_right, Nat.mod_eq_of_lt (by omega)]; omega

theorem sb_uniq (P x y s c s' c' : Nat) (h : x + P * c = y + s) (h' : x + P * c' = y + s') (hs : s < P) (hs' : s' < P) (hc : c ≤ 1) (hc' : c' ≤ 1) : s = s' ∧ c = c' := by
  have e0 : c = 0 ∨ c = 1 := by omega
  have e1 : c' = 0 ∨ c' = 1 := by omega
  rcases e0 with rfl | rfl <;> rcases e1 with rfl | rfl <;> simp at h h' ⊢ <;> omega

theorem sub_eq (x y b : Nat) (hx : x < 2 ^ 64) (hy : y < 2 ^ 64) (hb : b ≤ 1) : x + 2 ^ 64 * subHi x y b = y + b + subLo x y b := by
  unfold subHi subLo
  split <;> omega

theorem sb_succ (a b i : Nat) : sbS a b (i + 1) = sbS a b i + 2 ^ (64 * i) * subLo (dgt 64 a i) (dgt 64 b i) (sbC a b i) ∧ sbC a b (i + 1) = subHi (dgt 64 a i) (dgt 64 b i) (sbC a b i) := by
  have h0 := sb_eq a b i
  have h1 := sb_eq a b (i + 1)
  have h2 := sub_eq (dgt 64 a i) (dgt 64 b i) (sbC a b i) (dgt_lt _ _ _) (dgt_lt _ _ _) (sbC_le a b i)
  have h3 := subLo_lt (dgt 64 a i) (dgt 64 b i) (sbC a b i)
  have h4 := sbS_lt a b i
  refine sb_uniq (2 ^ (64 * (i + 1))) (a % 2 ^ (64 * (i + 1))) (b % 2 ^ (64 * (i + 1))) _ _ _ _ h1 ?_ (sbS_lt _ _ _) ?_ (sbC_le _ _ _) (subHi_le _ _ _)
  · rw [mod_succ, mod_succ, pow_next]
    generalize dgt 64 a i = x at *
    generalize dgt 64 b i = y at *
    generalize sbC a b i = c at *
    generalize subHi x y c = H at *
    generalize subLo x y c = L at *
    have e : 2 ^ (64 * i) * (x + 2 ^ 64 * H) = 2 ^ (64 * i) * (y + c + L) := by rw [h2]
    rw [Nat.mul_add, Nat.mul_add, Nat.mul_add, ← Nat.mul_assoc] at e
    omega
  · rw [pow_next]
    have : 2 ^ (64 * i) * (subLo (dgt 64 a i) (dgt 64 b i) (sbC a b i) + 1) ≤ 2 ^ (64 * i) * 2 ^ 64 := Nat.mul_le_mul_left _ h3
    rw [Nat.mul_add] at this
    omega
theorem sbS_zero (a b : Nat) : sbS a b 0 = 0 := by simp [sbS, Nat.mod_one]
theorem sbC_zero (a b : Nat) : sbC a b 0 = 0 := by simp [sbC, Nat.mod_one]
theorem sbS_all (a b : Nat) (ha : a < W256) (hb : b < W256) : sbS a b 4 = (a + W256 - b) % W256 := by
  unfold sbS sbT
  rw [← W256_eq, Nat.mod_eq_of_lt ha, Nat.mod_eq_of_lt hb]
theorem sbC_all (a b : Nat) (ha : a < W256) (hb : b < W256) : (sbC a b 4 != 0) = decide (a < b) := by
  unfold sbC
  rw [← W256_eq, Nat.mod_eq_of_lt ha, Nat.mod_eq_of_lt hb]
  by_cases h : a < b <;> simp [h]

/-! ### the product -/
def mlT (a x i : Nat) : Nat := a % 2 ^ (64 * i) * x
def mlS (a x i : Nat) : Nat := mlT a x i % 2 ^ (64 * i)
def mlH (a x i : Nat) : Nat := mlT a x i / 2 ^ (64 * i)
theorem mlS_lt (a x i : Nat) : mlS a x i < 2 ^ (64 * i) := Nat.mod_lt _ (Nat.two_pow_pos _)
theorem mlT_succ (a x i : Nat) : mlT a x (i + 1) = mlS a x i + 2 ^ (64 * i) * (dgt 64 a i * x + mlH a x i) := by
  have h := Nat.mod_add_div (mlT a x i) (2 ^ (64 * i))
  have e : mlT a x (i + 1) = mlT a x i + 2 ^ (64 * i) * (dgt 64 a i * x) := by
    unfold mlT
    rw [mod_succ, Nat.add_mul, Nat.mul_assoc]
  rw [e, mlS, mlH, Nat.mul_add]
  omega
theorem mlH_lt (a x i : Nat) (hx : x < 2 ^ 64) : mlH a x i < 2 ^ 64 := by
  unfold mlH mlT
  rw [Nat.div_lt_iff_lt_mul (Nat.two_pow_pos _)]
  have h1 := Nat.mod_lt a (Nat.two_pow_pos (64 * i))
  calc a % 2 ^ (64 * i) * x ≤ a % 2 ^ (64 * i) * 2 ^ 64 := Nat.mul_le_mul_left _ (by omega)
    _ < 2 ^ (64 * i) * 2 ^ 64 := Nat.mul_lt_mul_of_pos_right h1 (Nat.two_pow_pos _)
    _ = 2 ^ 64 * 2 ^ (64 * i) := Nat.mul_comm _ _
theorem ml_step (d x H : Nat) : addLo (mulLo d x) H 0 = (d * x + H) % 2 ^ 64 ∧ mulHi d x + addHi (mulLo d x) H 0 = (d * x + H) / 2 ^ 64 := by
  unfold addLo addHi mulLo mulHi
  generalize d * x = q
  omega
theorem mlS_succ (a x i : Nat) : mlS a x (i + 1) = mlS a x i + 2 ^ (64 * i) * addLo (mulLo (dgt 64 a i) x) (mlH a x i) 0 := by
  show mlT a x (i + 1) % _ = _
  rw [mlT_succ, pow_next, md_at _ _ _ _ (mlS_lt a x i), (ml_step _ _ _).1]
theorem mlH_succ (a x i : Nat) : mlH a x (i + 1) = mulHi (dgt 64 a i) x + addHi (mulLo (dgt 64 a i) x) (mlH a x i) 0 := by
  show mlT a x (i + 1) / _ = _
  rw [mlT_succ, pow_next, dv_at _ _ _ _ (mlS_lt a x i), (ml_step _ _ _).2]
theorem mlS_zero (a x : Nat) : mlS a x 0 = 0 := by simp [mlS, Nat.mod_one]
theorem mlH_zero (a x : Nat) : mlH a x 0 = 0 := by simp [mlH, mlT, Nat.mod_one]
theorem mlS_all (a x : Nat) (ha : a < W256) : mlS a x 4 = a * x % W256 := by
  unfold mlS mlT
  rw [← W256_eq, Nat.mod_eq_of_lt ha]
theorem mlH_all (a x : Nat) (ha : a < W256) : (mlH a x 4 != 0) = decide (W256 ≤ a * x) := by
  unfold mlH mlT
  rw [← W256_eq, Nat.mod_eq_of_lt ha]
  by_cases h : W256 ≤ a * x
  · have : 0 < (a * x) / W256 := Nat.div_pos h W256_pos
    simp only [h, decide_true]
    exact bne_iff_ne.2 (by omega)
  · rw [Nat.div_eq_of_lt (by omega)]
    simp [h]

/-! ### turned over -/
/-- With its first words turned over. -/
def notU (a : Nat) : Nat → Nat
  | 0 => a
  | i + 1 => putw 64 (notU a i) i (2 ^ 64 - 1 - dgt 64 a i)

theorem notU_dgt (a : Nat) : ∀ i j, dgt 64 (notU a i) j = if j < i then 2 ^ 64 - 1 - dgt 64 a j else dgt 64 a j
  | 0, j => by simp [notU]
  | i + 1, j => by
    rw [notU, putw_dgt _ _ _ _ _ (by have := dgt_lt 64 a i; omega), notU_dgt a i j]
    by_cases h : j = i
    · subst h; simp
    · simp only [h, if_false]
      by_cases h2 : j < i
      · rw [if_pos h2, if_pos (by omega)]
      · rw [if_neg h2, if_neg (by omega)]

theorem comp_dgt (n : Nat) : ∀ (a i : Nat), i < n → a < 2 ^ (64 * n) → dgt 64 (2 ^ (64 * n) - 1 - a) i = 2 ^ 64 - 1 - dgt 64 a i := by
  induction n with
  | zero => intro a i hi _; omega
  | succ n ih =>
    intro a i hi ha
    have e1 := pow_next n
    have hm := Nat.mod_lt a (Nat.two_pow_pos (64 * n))
    have hd : a / 2 ^ (64 * n) < 2 ^ 64 := by rw [Nat.div_lt_iff_lt_mul (Nat.two_pow_pos _)]; rw [e1, Nat.mul_comm] at ha; exact ha
    have hq : dgt 64 a n = a / 2 ^ (64 * n) := Nat.mod_eq_of_lt hd
    have hs := Nat.mod_add_div a (2 ^ (64 * n))
    have key : 2 ^ (64 * (n + 1)) - 1 - a = (2 ^ (64 * n) - 1 - a % 2 ^ (64 * n)) + 2 ^ (64 * n) * (2 ^ 64 - 1 - a / 2 ^ (64 * n)) := by
      rw [e1]
      generalize a / 2 ^ (64 * n) = q at *
      generalize a % 2 ^ (64 * n) = r at *
      generalize 2 ^ (64 * n) = P at *
      obtain ⟨k, hk⟩ : ∃ k, 2 ^ 64 = q + 1 + k := ⟨2 ^ 64 - (q + 1), by omega⟩
      rw [show 2 ^ 64 - 1 - q = k by omega, hk]
      have : P * (q + 1 + k) = P * q + P + P * k := by rw [Nat.mul_add, Nat.mul_add, Nat.mul_one]
      omega
    by_cases hin : i = n
    · subst hin
      rw [dgt, key, Nat.add_mul_div_left _ _ (Nat.two_pow_pos _), Nat.div_eq_of_lt (by omega), Nat.zero_add, hq, Nat.mod_eq_of_lt (by omega)]
    · rw [key, dgt_below 64 _ (2 ^ (64 * n) - 1 - a % 2 ^ (64 * n)) n i (by omega) (by rw [Nat.add_mul_mod_self_left]), ih (a % 2 ^ (64 * n)) i (by omega) hm, dgt_below 64 (a % 2 ^ (64 * n)) a n i (by omega) (Nat.mod_mod _ _)]

theorem not_all (a : Nat) (ha : a < W256) (k : IntKind) : rowN k 64 4 (notU a 4) = rowN k 64 4 (W256 - 1 - a) := by
  refine rowN_congr _ _ _ _ _ (mod_of_dgt _ _ _ _ fun i hi => ?_)
  rw [notU_dgt, if_pos hi, W256_eq, comp_dgt 4 a i hi (by rw [← W256_eq]; exact ha)]
end Go.Proofs.Ytkaoadijijahhaa

/- What a ranging over a function leaves alone. Nothing here speaks of the program. -/
namespace Go.Proofs.Ytkaoadijijahhaa
set_option maxRecDepth 100000
set_option linter.unusedVariables false
set_option linter.unusedSimpArgs false
open Go.RowKit Go.Shelf

/-- But for block x, and what is no cells, memory is as it was. -/
def Kc (x : Nat) (W W' : World) : Prop := W.heap.size ≤ W'.heap.size ∧ ∀ k c e f, k ≠ x → W.heap[k]? = some (.cells c e f) → W'.heap[k]? = some (.cells c e f)

theorem Kc.refl (x : Nat) (W : World) : Kc x W W := ⟨Nat.le_refl _, fun _ _ _ _ _ h => h⟩
theorem Kc.trans {x : Nat} {A B C : World} (h : Kc x A B) (k : Kc x B C) : Kc x A C := ⟨Nat.le_trans h.1 k.1, fun i c e f hi ha => k.2 i c e f hi (h.2 i c e f hi ha)⟩
theorem Kc.setCell (x : Nat) (W : World) (v : Value) : Kc x W (W.setCell ⟨x, 0, none⟩ v) := ⟨by simp [World.setCell], fun k c e f hk h => by rw [Below.heap_setCell _ _ _ _ hk]; exact h⟩
theorem Kc.below {x : Nat} {W W' : World} (h : Below W.heap.size W W') : Kc x W W' := ⟨h.size, fun k c e f _ hk => (h.block k (Array.getElem?_eq_some_iff.1 hk).1).trans hk⟩
theorem Kc.fr {x : Nat} {W W' : World} (h : Fr (fun k => k = x) W W') : Kc x W W' := ⟨h.size, fun k c e f hx hk => (h.block k (Array.getElem?_eq_some_iff.1 hk).1 hx).trans hk⟩
theorem Kc.putObj {x : Nat} (W : World) (l : Nat) (o o' : Obj) (h : W.heap[l]? = some o) (hc : o.isCells = false) : Kc x W (W.putObj l o') := by
  refine ⟨by simp [World.putObj], fun k c e f _ hk => ?_⟩
  by_cases hl : k = l
  · subst hl
    rw [h] at hk
    cases hk
    cases hc
  · simp only [World.putObj]
    rw [Array.getElem?_setIfInBounds_ne (by omega)]
    exact hk

theorem Kc.cell {x : Nat} {W W' : World} (h : Kc x W W') {p : Addr} {v : Value} (hp : p.block ≠ x) (hc : W.cell? p = some v) : W'.cell? p = some v := by
  unfold World.cell? at hc ⊢
  cases hb : W.heap[p.block]? with
  | none => rw [hb] at hc; cases hc
  | some o =>
    rw [hb] at hc
    cases o with
    | cells c e f => rw [h.2 _ c e f hp hb]; exact hc
    | _ => cases hc
end Go.Proofs.Ytkaoadijijahhaa

/- A law for 'range' over a function: what a round is handed is what comes next, and the iterator may read what the rounds hold. Nothing here speaks of the program. -/
namespace Go.Proofs.Ytkaoadijijahhaa
set_option maxRecDepth 100000
set_option linter.unusedVariables false
set_option linter.unusedSimpArgs false
open Go.RowKit Go.Shelf

variable {F : Fence} {n : Nat} {P : Program}

/-- The iterator's contract: where what the rounds hold (J) tells C, and each round that is handed what comes next (Nx) keeps J, or stops, the call comes to its end so. -/
def SeqJ {α : Type} (F : Fence) (n : Nat) (P : Program) (gf : Nat) (lb : Array Value) (encs : α → Array Value) (C : List α → World → Prop) (Nx : List α → α → Prop) (S : List α → Prop) : Prop :=
  ∀ (l : Nat) (J Jx : List α → World → Prop) (W : World), (∀ pre W', J pre W' → C pre W') →
    (∀ pre x W1, J pre W1 → Nx pre x → YieldAt F (n - 1) P l (encs x) W1 fun e W' => (e = .returned (.bool true) ∧ J (pre ++ [x]) W') ∨ (e = .returned (.bool false) ∧ Jx (pre ++ [x]) W')) →
    J [] W →
    CallsIn F n P gf (#[.func (.yield l) #[] #[]] ++ lb) W fun e W' => (∃ v, e = .returned v) ∧ ((∃ xs, S xs ∧ J xs W') ∨ (∃ pre, Jx pre W'))

abbrev KT : World → World → Prop := fun _ _ => True

theorem range_law {α : Type} {g : Operand} {ps : Array Tmp} {assign body : Code} {Q : Exit → Act → World → Prop} {a : Act} {w : World}
    (hro : F.round = none) (h1 : 1 ≤ n) {gf : Nat} {lb : Array Value} (hg : a.eval g = .func (.func gf) #[] lb) (hFg : F.fn gf) (eg : ∀ args w, (callFunc gf args).run P w = .ok (.enter gf args) w)
    {encs : α → Array Value} {C : List α → World → Prop} {Nx : List α → α → Prop} {S : List α → Prop} (hseq : SeqJ F (n - 1) P gf lb encs C Nx S) (hps : ∀ x, (encs x).size = ps.size)
    (I : List α → World → Prop) (Ix : Code → List α → World → Prop) (hI : OwnFrom w.heap.size I) (hIx : ∀ c, OwnFrom w.heap.size (Ix c)) (hIC : ∀ pre W, I pre W → C pre W) (h0 : I [] w) (a₁ : α → Act)
    (hassign : ∀ (l : Nat) (x : α) (W : World) (K : Act → World → Prop), K (a₁ x) W →
      assign.wpIn (F.inRound l) (n - 1 - 1) P (Exit.then K (fun _ _ _ => False)) { tmps := (ps.zip (encs x)).foldl (fun t (p, v) => t.setIfInBounds p v) a.tmps, defers := [] } W)
    (hbody : ∀ (l : Nat) (pre : List α) (x : α) (W : World), I pre W → Nx pre x → body.wpIn (F.inRound l) (n - 1 - 1) P (ownPostG w.heap.size KT I Ix (pre ++ [x]) W) (a₁ x) W)
    (hdone : ∀ (D : Nat) (xs : List α) (W : World), w.heap.size ≤ D → S xs → I xs W → W.heap[D]? = some (.deferred (some [])) → Q .normal { a with defers := { target := .collected D, args := #[] } :: a.defers } W)
    (hstop : ∀ (D : Nat) (c : Code) (pre : List α) (W : World), w.heap.size ≤ D → Ix c pre W → W.heap[D]? = some (.deferred (some [])) → c.wpIn F n P Q { a with defers := { target := .collected D, args := #[] } :: a.defers } W) :
    (Code.rangeFunc g ps assign body).wpIn F n P Q a w := by
  refine wpIn_rangeFunc fun fn hfn => ?_
  rw [hro]
  generalize hB : w.heap.size = B at *
  obtain ⟨R, hR⟩ : ∃ R : LoopState → Option Code → Obj, R = fun st pe => .loop { state := st, pending := pe, fn, tmps := a.tmps, params := ps, assign, body, defers := B } := ⟨_, rfl⟩
  obtain ⟨V, hV⟩ : ∃ V, V = (w.alloc (.deferred (some []))).alloc (R .ready none) := ⟨_, rfl⟩
  have hVl : V.heap[B + 1]? = some (R .ready none) := by
    rw [hV, ← hB]; have := World.alloc_heap_new (w.alloc (.deferred (some []))) (R .ready none); rwa [World.size_alloc] at this
  have hVd : V.heap[B]? = some (.deferred (some [])) := by
    rw [hV, ← hB]; exact (Below.heap_alloc _ _ _ (by simp)).trans (World.alloc_heap_new w _)
  refine ⟨B + 1, [{ target := .collected B, args := #[] }], V, { target := .fn (.func gf) lb, args := #[.func (.yield (B + 1)) #[] #[]] }, V, gf, #[.func (.yield (B + 1)) #[] #[]] ++ lb, V, ?_, ?_, ?_, ?_, fun _ => h1, ?_⟩
  · rw [hV, hR, ← hB]; exact run_enterLoop_outer _ _ _ _ _
  · simp only [resolve, hg]
    simp [go_sem]
  · intro f' hf'
    simp [Target.leads] at hf'
    subst hf'
    exact hFg
  · simp [invoke, go_sem, eg]
  · refine (hseq (B + 1) (fun pre W => I pre W ∧ W.heap[B + 1]? = some (R .ready none) ∧ W.heap[B]? = some (.deferred (some [])))
      (fun pre W => ∃ c, Ix c pre W ∧ W.heap[B + 1]? = some (R .done (some c)) ∧ W.heap[B]? = some (.deferred (some []))) V (fun pre W' h => hIC pre W' h.1) ?_ ⟨by rw [hV]; exact hI.alloc _ (hI.alloc _ h0), hVl, hVd⟩).mono ?_
    · rintro pre x W ⟨hi, hl, hk⟩ hnx
      have hlt : B + 1 < W.heap.size := (Array.getElem?_eq_some_iff.1 hl).1
      rw [hR] at hl
      have hy := run_yield (P := P) (args := encs x) hl (hps x)
      refine ⟨fn, _, assign, body, hy, roundIn_of_wpIn hfn (hassign _ x W _ ⟨_, run_beginRound hl rfl, ?_⟩)⟩
      obtain ⟨bz, hbz⟩ : ∃ bz : Loop, bz = { state := .busy, pending := none, fn, tmps := a.tmps, params := ps, assign, body, defers := B } := ⟨_, rfl⟩
      have hl2 : (W.putObj (B + 1) (.loop bz)).heap[B + 1]? = some (.loop bz) := World.putObj_heap_same hlt
      have hk2 : (W.putObj (B + 1) (.loop bz)).heap[B]? = some (.deferred (some [])) := (World.putObj_heap_other (by omega)).trans hk
      rw [← hbz]
      refine wpIn_mono (hbody _ pre x _ (hI.putObj _ hi (by omega) hl rfl) hnx) ?_
      have fin : ∀ (j : Option Code) (U : World), KeepsFrom B (W.putObj (B + 1) (.loop bz)) U → U.heap[B + 1]? = some (.loop bz) ∧
          (Instr.endRound (B + 1) j).run P U = .ok (.bool j.isNone) (U.putObj (B + 1) (R (if j.isNone then .ready else .done) j)) ∧
          (U.putObj (B + 1) (R (if j.isNone then .ready else .done) j)).heap[B + 1]? = some (R (if j.isNone then .ready else .done) j) ∧
          (U.putObj (B + 1) (R (if j.isNone then .ready else .done) j)).heap[B]? = some (.deferred (some [])) := fun j U hk3 => by
        have hl3 := hk3.same _ _ (by omega) hl2 rfl
        refine ⟨hl3, ?_, World.putObj_heap_same (Array.getElem?_eq_some_iff.1 hl3).1, (World.putObj_heap_other (by omega)).trans (hk3.same _ _ (Nat.le_refl _) hk2 rfl)⟩
        have := run_endRound (P := P) j hl3
        rw [hbz] at this
        rw [hR]
        exact this
      rintro e a3 U hp
      cases e with
      | normal =>
        obtain ⟨hl3, hr, hl4, hk4⟩ := fin none U hp.1
        exact ⟨_, _, hr, .inl ⟨rfl, hI.putObj _ hp.2.2 (by omega) hl3 rfl, hl4, hk4⟩⟩
      | ret =>
        obtain ⟨hl3, hr, hl4, hk4⟩ := fin (some .ret) U hp.1
        exact ⟨_, _, hr, .inr ⟨rfl, .ret, (hIx _).putObj _ hp.2 (by omega) hl3 rfl, hl4, hk4⟩⟩
      | exit id =>
        obtain ⟨hl3, hr, hl4, hk4⟩ := fin (some (.exit id)) U hp.1
        exact ⟨_, _, hr, .inr ⟨rfl, .exit id, (hIx _).putObj _ hp.2 (by omega) hl3 rfl, hl4, hk4⟩⟩
      | goto t =>
        obtain ⟨hl3, hr, hl4, hk4⟩ := fin (some (.goto t)) U hp.1
        exact ⟨_, _, hr, .inr ⟨rfl, .goto t, (hIx _).putObj _ hp.2 (by omega) hl3 rfl, hl4, hk4⟩⟩
      | panic ch => exact hp.elim
      | outgrown => exact hp.elim
    · rintro e U ⟨⟨v, rfl⟩, (⟨xs, hS, hi, hl, hk⟩ | ⟨pre, c, hi, hl, hk⟩)⟩
      · rw [hR] at hl
        exact ⟨none, _, run_endLoop (P := P) hl (by simp), hdone _ xs _ (Nat.le_refl _) hS (hI.putObj _ hi (by omega) hl rfl) ((World.putObj_heap_other (by omega)).trans hk)⟩
      · rw [hR] at hl
        exact ⟨some c, _, run_endLoop (P := P) hl (by simp), hstop _ c pre _ (Nat.le_refl _) ((hIx c).putObj _ hi (by omega) hl rfl) ((World.putObj_heap_other (by omega)).trans hk)⟩

/-- A block of cells abides. -/
theorem own_heap {β : Type} (B g : Nat) (c : β → Array Value) (t : TypeId) (f : Nat × Nat) : OwnFrom B (fun (s : β) W => W.heap[g]? = some (.cells (c s) t f)) :=
  fun s A D row hs hg hr => (grownBy_keeps_cells hg (fun r e => (hr r e).2) hs rfl).trans hs
theorem own_pure {β : Type} (B : Nat) (p : β → Prop) : OwnFrom B (fun (s : β) (_ : World) => p s) := fun s A D row hs _ _ => hs
theorem own_below {β : Type} (B n : Nat) (w : World) (h : w.heap.size ≤ B) (hn : n ≤ w.heap.size) : OwnFrom B (fun (_ : β) W => Below n w W) := ownFrom_below hn (by omega)
end Go.Proofs.Ytkaoadijijahhaa

/- slices.Backward at words: what comes next is read when it comes. -/
namespace Go.Proofs.Ytkaoadijijahhaa
set_option maxRecDepth 100000
set_option linter.unusedVariables false
set_option linter.unusedSimpArgs false
open Go.RowKit Go.Shelf

attribute [local go_sem] Oper.semAt_some

/-- What has come when k rounds are over: from behind, each as it is then (v tells). -/
def bt (v : List (Nat × Nat) → Nat) (N : Nat) : Nat → List (Nat × Nat)
  | 0 => []
  | k + 1 => bt v N k ++ [(N - 1 - k, v (bt v N k))]
theorem bt_length (v : List (Nat × Nat) → Nat) (N : Nat) : ∀ k, (bt v N k).length = k
  | 0 => rfl
  | k + 1 => by simp [bt, bt_length v N k]

def nextU (v : List (Nat × Nat) → Nat) (N : Nat) (pre : List (Nat × Nat)) (x : Nat × Nat) : Prop := pre.length < N ∧ x = (N - 1 - pre.length, v pre) ∧ pre = bt v N pre.length

abbrev encU (x : Nat × Nat) : Array Value := #[.int .i64 (x.1 : Int), .int .u64 (x.2 : Int)]

/-- What the iterator reads: its slice's header, and the word that comes next. -/
def seesU (v : List (Nat × Nat) → Nat) (N Bx b off cap : Nat) (pre : List (Nat × Nat)) (W : World) : Prop :=
  W.cell? ⟨Bx, 0, none⟩ = some (.slice (some ⟨b, off, none⟩) N cap) ∧ (pre.length < N → W.cell? ⟨b, off + (N - 1 - pre.length), none⟩ = some (.int .u64 (v pre : Nat)))

set_option maxRecDepth 100000 in
set_option maxHeartbeats 2000000 in
theorem BackU1_seq (F : Fence) (n : Nat) (hF : F.fn 37) (hro : F.round = none) (hn : 1 ≤ n) (v : List (Nat × Nat) → Nat) (N Bx b off cap : Nat) (hN : N ≤ 140737488355328) :
    SeqJ F n Try.prog 37 #[.pointer (some ⟨Bx, 0, none⟩)] encU (seesU v N Bx b off cap) (nextU v N) (fun xs => xs = bt v N N) := by
  intro l J Jx W hC hY h0
  refine callsIn_of_wp Try.func37 rfl hF ?_ hro
  simp only [Try.ntmps37, List.size_toArray, List.length_cons, List.length_nil, Nat.reduceAdd, Nat.reduceSub, Array.replicate_succ, Array.replicate_zero, List.push_toArray, List.append_toArray, List.nil_append, List.cons_append]
  have hbox := (hC _ _ h0).1
  gi_wp2
  gi_loopw [3] (fun i wr => ∃ k : Nat, k ≤ N ∧ i = .int .i64 ((N : Int) - 1 - k) ∧ J (bt v N k) wr) (fun i _ => (intOf i + 1).toNat)
  case atStart => exact ⟨0, Nat.zero_le _, by simp, h0⟩
  case round =>
    clear hbox
    obtain ⟨k, hk, rfl, hJs⟩ := hrel
    obtain ⟨hbox, hcx⟩ := hC _ _ hJs
    rw [bt_length] at hcx
    by_cases hlt : k < N
    · replace hcx := hcx hlt
      obtain ⟨fn, tmps, assign, body, hy, hR⟩ := hY _ (N - 1 - k, v (bt v N k)) wr hJs ⟨by rw [bt_length]; exact hlt, by rw [bt_length], by rw [bt_length]⟩
      dsimp only [encU] at hy
      have e1 : ((N - 1 - k : Nat) : Int) = (N : Int) - 1 - k := by omega
      rw [e1] at hy
      clear e1
      gi_wp2
      refine hR.mono ?_
      rintro e W3 (⟨rfl, hJ3⟩ | ⟨rfl, hJx3⟩)
      · gi_wp2
        go_roundw
        case rel => exact ⟨k + 1, by omega, by go_num, hJ3⟩
        case measure => simp [intOf]; omega
      · gi_wp2
        refine bodyPost_ret (results_none rfl _ _ _) rfl ?_
        exact ⟨⟨_, rfl⟩, .inr ⟨_, hJx3⟩⟩
    · obtain rfl : k = N := by omega
      gi_wp2
      go_end0
      exact ⟨⟨_, rfl⟩, .inl ⟨_, rfl, hJs⟩⟩

set_option maxHeartbeats 1000000 in
theorem BackU_in (F : Fence) (n : Nat) (hF : F.fn 32) (hro : F.round = none) (a : Option Addr) (len cap : Nat) (w : World) :
    CallsIn F n Try.prog 32 #[.slice a len cap] w fun e w' => e = .returned (.func (.func 37) #[] #[.pointer (some ⟨w.heap.size, 0, none⟩)]) ∧ w' = w.alloc (.cells #[.slice a len cap] 37) := by
  refine callsIn_of_wp Try.func32 rfl hF ?_ hro
  simp only [Try.ntmps32, List.size_toArray, List.length_cons, List.length_nil, Nat.reduceAdd, Nat.reduceSub, Array.replicate_succ, Array.replicate_zero, List.push_toArray, List.append_toArray, List.nil_append, List.cons_append]
  gi_wp2
  go_ret
  exact ⟨rfl, rfl⟩
end Go.Proofs.Ytkaoadijijahhaa

/- A division of two words by one, digit by digit (of 32 bits). Nothing here speaks of the program. -/
namespace Go.Proofs.Ytkaoadijijahhaa
set_option maxRecDepth 100000
set_option linter.unusedVariables false
set_option linter.unusedSimpArgs false

/-- What a guess of a digit must be. -/
structure Guess (y1 y0 u d q r : Nat) : Prop where
  eq : u = q * y1 + r
  ge : (u * 4294967296 + d) / (y1 * 4294967296 + y0) ≤ q

theorem dig_lt {y u d : Nat} (hy : 0 < y) (hu : u < y) (hd : d < 4294967296) : (u * 4294967296 + d) / y < 4294967296 := by
  rw [Nat.div_lt_iff_lt_mul hy]
  have : (u + 1) * 4294967296 ≤ y * 4294967296 := Nat.mul_le_mul_right _ hu
  rw [Nat.add_mul] at this
  rw [Nat.mul_comm 4294967296 y]
  omega

theorem guess_first {y1 y0 u d : Nat} (h1 : 0 < y1) (h0 : y0 < 4294967296) (hd : d < 4294967296) : Guess y1 y0 u d (u / y1) (u % y1) := by
  refine ⟨?_, ?_⟩
  · have := Nat.mod_add_div u y1
    rw [Nat.mul_comm (u / y1)]
    omega
  · have hY : 0 < y1 * 4294967296 + y0 := by omega
    generalize hq : (u * 4294967296 + d) / (y1 * 4294967296 + y0) = q
    have h2 : q * (y1 * 4294967296 + y0) ≤ u * 4294967296 + d := by rw [← hq]; exact Nat.div_mul_le_self _ _
    rw [Nat.le_div_iff_mul_le h1]
    rw [Nat.mul_add, ← Nat.mul_assoc] at h2
    generalize q * y1 = z at *
    generalize q * y0 = t at *
    omega

/-- The guess is too great just if the test says so. -/
theorem guess_test {y1 y0 u d q r : Nat} (g : Guess y1 y0 u d q r) : (q * y0 > r * 4294967296 + d) ↔ q * (y1 * 4294967296 + y0) > u * 4294967296 + d := by
  rw [g.eq, Nat.mul_add, ← Nat.mul_assoc, Nat.add_mul]
  generalize q * y1 = z
  generalize q * y0 = t
  omega

theorem guess_less {y1 y0 u d q r : Nat} (hY : 0 < y1 * 4294967296 + y0) (g : Guess y1 y0 u d q r) (h : q * (y1 * 4294967296 + y0) > u * 4294967296 + d) : 0 < q ∧ Guess y1 y0 u d (q - 1) (r + y1) := by
  have hlt : (u * 4294967296 + d) / (y1 * 4294967296 + y0) < q := by rw [Nat.div_lt_iff_lt_mul hY]; omega
  refine ⟨Nat.lt_of_le_of_lt (Nat.zero_le _) hlt, ?_, Nat.le_sub_one_of_lt hlt⟩
  have hq0 : 0 < q := Nat.lt_of_le_of_lt (Nat.zero_le _) hlt
  clear hlt
  obtain ⟨k, rfl⟩ : ∃ k, q = k + 1 := ⟨q - 1, by omega⟩
  rw [Nat.add_sub_cancel, g.eq, Nat.add_mul]
  omega

theorem guess_big {y1 y0 u d q r : Nat} (hY : 0 < y1 * 4294967296 + y0) (hu : u < y1 * 4294967296 + y0) (hd : d < 4294967296) (g : Guess y1 y0 u d q r) (h : 4294967296 ≤ q) : 0 < q ∧ Guess y1 y0 u d (q - 1) (r + y1) := by
  have hq := dig_lt hY hu hd
  refine guess_less hY g ?_
  have : (u * 4294967296 + d) / (y1 * 4294967296 + y0) < q := Nat.lt_of_lt_of_le hq h
  rw [Nat.div_lt_iff_lt_mul hY] at this
  exact this

theorem guess_end {y1 y0 u d q r : Nat} (hY : 0 < y1 * 4294967296 + y0) (g : Guess y1 y0 u d q r) (h : ¬ q * (y1 * 4294967296 + y0) > u * 4294967296 + d) : q = (u * 4294967296 + d) / (y1 * 4294967296 + y0) := by
  refine Nat.le_antisymm ?_ g.ge
  rw [Nat.le_div_iff_mul_le hY]
  omega

/-- A guess whose rest is great is right. -/
theorem guess_rest {y1 y0 u d q r : Nat} (hY : 0 < y1 * 4294967296 + y0) (h0 : y0 < 4294967296) (hq : q ≤ 4294967296) (g : Guess y1 y0 u d q r) (h : 4294967296 ≤ r) : q = (u * 4294967296 + d) / (y1 * 4294967296 + y0) := by
  refine guess_end hY g ?_
  rw [← guess_test g]
  have h1 : q * y0 ≤ 4294967296 * y0 := Nat.mul_le_mul_right _ hq
  omega

theorem guess_small {y1 y0 u : Nat} (h1 : 2147483648 ≤ y1) (h0 : y0 < 4294967296) (hu : u < y1 * 4294967296 + y0) : u / y1 ≤ 4294967297 := by
  have : u / y1 < 4294967298 := by
    rw [Nat.div_lt_iff_lt_mul (by omega)]
    omega
  omega

theorem two_digits (u v1 v0 y : Nat) (hy : 0 < y) : (u * 18446744073709551616 + (v1 * 4294967296 + v0)) / y = (u * 4294967296 + v1) / y * 4294967296 + ((u * 4294967296 + v1) % y * 4294967296 + v0) / y ∧
    (u * 18446744073709551616 + (v1 * 4294967296 + v0)) % y = ((u * 4294967296 + v1) % y * 4294967296 + v0) % y := by
  have e : u * 18446744073709551616 + (v1 * 4294967296 + v0) = ((u * 4294967296 + v1) % y * 4294967296 + v0) + y * ((u * 4294967296 + v1) / y * 4294967296) := by
    have h := Nat.mod_add_div (u * 4294967296 + v1) y
    generalize (u * 4294967296 + v1) / y = q at *
    generalize (u * 4294967296 + v1) % y = r at *
    rw [← Nat.mul_assoc]
    generalize y * q = z at *
    omega
  rw [e, Nat.add_mul_div_left _ _ hy, Nat.add_mul_mod_self_left]
  exact ⟨Nat.add_comm _ _, rfl⟩

theorem shifted_div (n y s : Nat) : n * 2 ^ s / (y * 2 ^ s) = n / y ∧ n * 2 ^ s % (y * 2 ^ s) / 2 ^ s = n % y := by
  have hp := Nat.two_pow_pos s
  refine ⟨Nat.mul_div_mul_right _ _ hp, ?_⟩
  rw [Nat.mul_mod_mul_right, Nat.mul_div_cancel _ hp]

theorem norm_div {hi lo y s Y U V : Nat} (hlt : hi < y) (hs : s ≤ 64) (hY : Y = y * 2 ^ s) (hU : U = hi * 2 ^ s + lo / 2 ^ (64 - s)) (hV : V = lo * 2 ^ s % 2 ^ 64) (hlo : lo < 2 ^ 64) :
    U < Y ∧ (hi * 18446744073709551616 + lo) * 2 ^ s = U * 18446744073709551616 + V ∧ lo / 2 ^ (64 - s) < 2 ^ s := by
  have ps : (2 : Nat) ^ 64 = 2 ^ (64 - s) * 2 ^ s := by rw [← Nat.pow_add]; congr 1; omega
  have hl : lo / 2 ^ (64 - s) < 2 ^ s := by
    rw [Nat.div_lt_iff_lt_mul (Nat.two_pow_pos _), Nat.mul_comm, ← ps]
    exact hlo
  refine ⟨?_, ?_, hl⟩
  · have h1 : (hi + 1) * 2 ^ s ≤ y * 2 ^ s := Nat.mul_le_mul_right _ hlt
    rw [Nat.add_mul] at h1
    omega
  · have h1 := Nat.mod_add_div (lo * 2 ^ s) (2 ^ 64)
    have h2 : lo * 2 ^ s / 2 ^ 64 = lo / 2 ^ (64 - s) := by rw [ps, Nat.mul_div_mul_right _ _ (Nat.two_pow_pos _)]
    rw [h2, ← hV] at h1
    rw [hU, Nat.add_mul, Nat.add_mul, ← h1]
    generalize lo / 2 ^ (64 - s) = z
    have : hi * 18446744073709551616 * 2 ^ s = hi * 2 ^ s * 18446744073709551616 := by rw [Nat.mul_right_comm]
    omega

/-- How a digit's rest is reckoned, modulo 2 to the power of 64. -/
theorem dig_rest {u d y q : Nat} (hy : y < 18446744073709551616) (h0 : 0 < y) (hd : d < 4294967296) (hq : q = (u * 4294967296 + d) / y) :
    (((u : Int) * 4294967296 % 18446744073709551616 + d) % 18446744073709551616 - (q : Int) * y % 18446744073709551616) % 18446744073709551616 = (((u * 4294967296 + d) % y : Nat) : Int) := by
  have h := Nat.mod_add_div (u * 4294967296 + d) y
  have hl := Nat.mod_lt (u * 4294967296 + d) h0
  rw [← hq] at h
  generalize (u * 4294967296 + d) % y = r at *
  have e : (q : Int) * y = ((y * q : Nat) : Int) := by rw [Int.natCast_mul, Int.mul_comm]
  rw [e]
  generalize y * q = z at *
  omega
end Go.Proofs.Ytkaoadijijahhaa

/- Digits of 16 bits: sums, differences, products, halves. Nothing here speaks of the program. -/
namespace Go.Proofs.Ytkaoadijijahhaa
set_option maxRecDepth 100000
set_option linter.unusedVariables false
set_option linter.unusedSimpArgs false

/-- 65536 to the power of i. -/
def pw (i : Nat) : Nat := 2 ^ (16 * i)
theorem pw_pos (i : Nat) : 0 < pw i := Nat.two_pow_pos _
theorem pw_zero : pw 0 = 1 := rfl
theorem pw_succ (i : Nat) : pw (i + 1) = pw i * 65536 := by
  unfold pw
  rw [show (65536 : Nat) = 2 ^ 16 from rfl, ← Nat.pow_add]; congr 1
theorem pw_add (i j : Nat) : pw (i + j) = pw i * pw j := by
  unfold pw
  rw [← Nat.pow_add]; congr 1; omega
theorem pw_le {i j : Nat} (h : i ≤ j) : pw i ≤ pw j := Nat.pow_le_pow_right (by omega) (by omega)
theorem pw_lt {i j : Nat} (h : pw i < pw j) : i < j := by
  refine Nat.lt_of_not_le fun hl => ?_
  have := pw_le hl
  omega
theorem dgt_pw (x i : Nat) : dgt 16 x i = x / pw i % 65536 := rfl
theorem d16_lt (x i : Nat) : dgt 16 x i < 65536 := dgt_lt 16 x i
theorem md_succ (x i : Nat) : x % pw (i + 1) = x % pw i + pw i * dgt 16 x i := mod_succ 16 x i
theorem dv_succ (x i : Nat) : x / pw i = 65536 * (x / pw (i + 1)) + dgt 16 x i := by
  rw [pw_succ, ← Nat.div_div_eq_div_mul, dgt_pw]
  omega

/-! ### the sum -/
def caC (x y i : Nat) : Nat := (x % pw i + y % pw i) / pw i
theorem caC_zero (x y : Nat) : caC x y 0 = 0 := by simp [caC, pw_zero, Nat.mod_one]
theorem caC_le (x y i : Nat) : caC x y i ≤ 1 := by
  have h1 := Nat.mod_lt x (pw_pos i)
  have h2 := Nat.mod_lt y (pw_pos i)
  have := (Nat.div_lt_iff_lt_mul (pw_pos i)).2 (show x % pw i + y % pw i < 2 * pw i by omega)
  unfold caC
  omega
theorem ca_step (x y i : Nat) : (caC x y i + dgt 16 x i + dgt 16 y i) % 65536 = dgt 16 (x + y) i ∧ (caC x y i + dgt 16 x i + dgt 16 y i) / 65536 = caC x y (i + 1) := by
  have hm := Nat.mod_add_div (x % pw i + y % pw i) (pw i)
  have hr := Nat.mod_lt (x % pw i + y % pw i) (pw_pos i)
  have hx := Nat.mod_add_div x (pw i)
  have hy := Nat.mod_add_div y (pw i)
  have hp := pw_pos i
  constructor
  · have e : x + y = (x % pw i + y % pw i) % pw i + pw i * (x / pw i + y / pw i + caC x y i) := by
      unfold caC
      rw [Nat.mul_add, Nat.mul_add]
      omega
    rw [dgt_pw (x + y), e, Nat.add_mul_div_left _ _ hp, Nat.div_eq_of_lt hr, dgt_pw, dgt_pw]
    omega
  · have e : x % pw (i + 1) + y % pw (i + 1) = (x % pw i + y % pw i) % pw i + pw i * (caC x y i + dgt 16 x i + dgt 16 y i) := by
      rw [md_succ, md_succ]
      unfold caC
      rw [Nat.mul_add, Nat.mul_add]
      omega
    show _ = (x % pw (i + 1) + y % pw (i + 1)) / pw (i + 1)
    rw [e, pw_succ, dv_at _ _ _ _ hr]
theorem ca_end {x y i : Nat} (hx : x < pw i) (hy : y < pw i) (h : caC x y i = 0) : x + y < pw i := by
  unfold caC at h
  rw [Nat.mod_eq_of_lt hx, Nat.mod_eq_of_lt hy] at h
  rcases Nat.lt_or_ge (x + y) (pw i) with h1 | h1
  · exact h1
  · have := Nat.div_pos h1 (pw_pos i); omega

/-! ### the difference -/
def bwC (x y i : Nat) : Nat := if x % pw i < y % pw i then 1 else 0
theorem bwC_zero (x y : Nat) : bwC x y 0 = 0 := by simp [bwC, pw_zero, Nat.mod_one]
theorem bwC_le (x y i : Nat) : bwC x y i ≤ 1 := by unfold bwC; split <;> omega
theorem bw_step (x y i : Nat) (h : y ≤ x) : (65536 + dgt 16 x i - dgt 16 y i - bwC x y i) % 65536 = dgt 16 (x - y) i ∧ 1 - (65536 + dgt 16 x i - dgt 16 y i - bwC x y i) / 65536 = bwC x y (i + 1) := by
  have hx := Nat.mod_add_div x (pw i)
  have hy := Nat.mod_add_div y (pw i)
  have hxr := Nat.mod_lt x (pw_pos i)
  have hyr := Nat.mod_lt y (pw_pos i)
  have hp := pw_pos i
  have l1 := d16_lt x i
  have l2 := d16_lt y i
  have hb : ∃ s, s < pw i ∧ x % pw i + pw i * bwC x y i = y % pw i + s := by
    unfold bwC
    split
    · exact ⟨x % pw i + pw i - y % pw i, by omega, by omega⟩
    · exact ⟨x % pw i - y % pw i, by omega, by omega⟩
  obtain ⟨s, hs, hbs⟩ := hb
  have hle := bwC_le x y i
  constructor
  · have hq : y / pw i + bwC x y i ≤ x / pw i := by
      refine Nat.le_of_not_lt fun hlt => ?_
      have := Nat.mul_le_mul_left (pw i) (show x / pw i + 1 ≤ y / pw i + bwC x y i from hlt)
      rw [Nat.mul_add, Nat.mul_add] at this
      omega
    have e : x - y = s + pw i * (x / pw i - y / pw i - bwC x y i) := by
      rw [Nat.mul_sub, Nat.mul_sub]
      have := Nat.mul_le_mul_left (pw i) hq
      rw [Nat.mul_add] at this
      omega
    rw [dgt_pw (x - y), e, Nat.add_mul_div_left _ _ hp, Nat.div_eq_of_lt hs, dgt_pw, dgt_pw]
    omega
  · rw [show bwC x y (i + 1) = if x % pw (i + 1) < y % pw (i + 1) then 1 else 0 from rfl, md_succ, md_succ]
    rcases Nat.lt_or_ge (dgt 16 x i) (dgt 16 y i + bwC x y i) with h1 | h1
    · have := Nat.mul_le_mul_left (pw i) (show dgt 16 x i + 1 ≤ dgt 16 y i + bwC x y i from h1)
      rw [Nat.mul_add, Nat.mul_add] at this
      rw [if_pos (by omega)]
      omega
    · have := Nat.mul_le_mul_left (pw i) h1
      rw [Nat.mul_add] at this
      rw [if_neg (by omega)]
      omega

/-! ### the product -/
theorem putw_at (V j r : Nat) : putw 16 V j r + pw j * dgt 16 V j = V + pw j * r := by
  have h1 := Nat.mod_add_div V (pw j)
  have h2 := dv_succ V j
  rw [h2, Nat.mul_add] at h1
  have e : putw 16 V j r = V % pw j + pw j * (r + 65536 * (V / pw (j + 1))) := rfl
  rw [e, Nat.mul_add]
  omega
/-- What is reckoned so far of a product. -/
def mlP (x y i d k : Nat) : Nat := x % pw i * y + d * (y % pw k) * pw i
theorem mlP_zero (x y i d : Nat) : mlP x y i d 0 = x % pw i * y := by simp [mlP, pw_zero, Nat.mod_one]
theorem mlP_succ (x y i d k : Nat) : mlP x y i d (k + 1) = mlP x y i d k + pw (i + k) * (d * dgt 16 y k) := by
  unfold mlP
  rw [md_succ, pw_add, Nat.mul_add, Nat.add_mul, Nat.add_assoc]
  congr 2
  ac_rfl
theorem mlP_all (x y i k : Nat) (h : y < pw k) : mlP x y i (dgt 16 x i) k = x % pw (i + 1) * y := by
  unfold mlP
  rw [md_succ, Nat.mod_eq_of_lt h, Nat.add_mul]
  congr 1
  ac_rfl
theorem ml_step' (x y i d k V c : Nat) (h : V + pw (i + k) * c = mlP x y i d k) :
    putw 16 V (i + k) ((c + dgt 16 V (i + k) + d * dgt 16 y k) % 65536) + pw (i + k + 1) * ((c + dgt 16 V (i + k) + d * dgt 16 y k) / 65536) = mlP x y i d (k + 1) := by
  have h1 := putw_at V (i + k) ((c + dgt 16 V (i + k) + d * dgt 16 y k) % 65536)
  rw [mlP_succ, ← h, pw_succ, Nat.mul_assoc]
  have h2 := Nat.mod_add_div (c + dgt 16 V (i + k) + d * dgt 16 y k) 65536
  generalize hs : c + dgt 16 V (i + k) + d * dgt 16 y k = s at *
  have h3 : pw (i + k) * (s % 65536) + pw (i + k) * (65536 * (s / 65536)) = pw (i + k) * c + pw (i + k) * dgt 16 V (i + k) + pw (i + k) * (d * dgt 16 y k) := by
    rw [← Nat.mul_add, h2, ← hs, Nat.mul_add, Nat.mul_add]
  omega
theorem ml_lt {c o d e : Nat} (hc : c < 65536) (ho : o < 65536) (hd : d < 65536) (he : e < 65536) : c + o + d * e < 4294967296 := by
  have := Nat.mul_le_mul (show d ≤ 65535 by omega) (show e ≤ 65535 by omega)
  omega
theorem ml_room {x y i k V c lb : Nat} (h : V + pw (i + k) * c = mlP x y i (dgt 16 x i) k) (hy : y < pw lb) (hk : lb ≤ k) (hc : 0 < c) : k ≤ lb := by
  rw [mlP_all _ _ _ _ (Nat.lt_of_lt_of_le hy (pw_le hk))] at h
  have h1 : x % pw (i + 1) * y < pw (i + 1) * pw lb := Nat.mul_lt_mul'' (Nat.mod_lt _ (pw_pos _)) hy
  have h2 : pw (i + k) * 1 ≤ pw (i + k) * c := Nat.mul_le_mul_left _ hc
  rw [← pw_add] at h1
  have := pw_lt (show pw (i + k) < pw (i + 1 + lb) by omega)
  omega

/-! ### halves -/
theorem half_step (x i V : Nat) (hV : V = pw (i + 1) * (x / pw (i + 1) / 2)) :
    putw 16 V i ((x / pw (i + 1) % 2 * 65536 + dgt 16 x i) / 2) = pw i * (x / pw i / 2) ∧ (x / pw (i + 1) % 2 * 65536 + dgt 16 x i) % 2 = x / pw i % 2 := by
  have h2 := dv_succ x i
  have hp := pw_pos i
  generalize x / pw (i + 1) = X at *
  have l := d16_lt x i
  generalize dgt 16 x i = d at *
  constructor
  · have e : putw 16 V i ((X % 2 * 65536 + d) / 2) = V % pw i + pw i * ((X % 2 * 65536 + d) / 2 + 65536 * (V / pw (i + 1))) := rfl
    have e1 : V % pw i = 0 := by rw [hV, pw_succ, Nat.mul_assoc, Nat.mul_mod_right]
    have e2 : V / pw (i + 1) = X / 2 := by rw [hV, Nat.mul_div_cancel_left _ (pw_pos _)]
    rw [e, e1, e2, Nat.zero_add, h2]
    congr 1
    omega
  · rw [h2]; omega
end Go.Proofs.Ytkaoadijijahhaa

/- Bytes of the call's own: appending to them. -/
namespace Go.Proofs.Ytkaoadijijahhaa
set_option maxRecDepth 100000
set_option linter.unusedVariables false
set_option linter.unusedSimpArgs false
open Go.RowKit

theorem Try.infoU8 : (Try.prog.info? 5).map (fun i => (i.zero, i.size, i.bytes)) = some (some (.int .u8 0), 1, 1) := by kernel_rfl

/-- A row of bytes of the call's own. -/
def OwnB (w : World) (v : Value) (bs : List UInt8) : Prop := w.ownsRow 0 5 1 v bs.length (bs.map B8)

theorem OwnB.nil (w : World) : OwnB w (.slice none 0 0) [] := World.ownsRow_nil _ _ _ _

theorem OwnB.bs {w : World} {a : Option Addr} {n c : Nat} {bs : List UInt8} (h : OwnB w (.slice a n c) bs) : n = bs.length ∧ Bs w a c bs := (Bs.of_own h).2

theorem OwnB.slice {w : World} {v : Value} {bs : List UInt8} (h : OwnB w v bs) : ∃ a c, v = .slice a bs.length c := own_slice h

theorem OwnB.lt {w : World} {v : Value} {bs : List UInt8} (h : OwnB w v bs) : ∀ k, v.ownBlock = some k → k < w.heap.size := fun k hk => (World.ownsRow.lt h k hk).2

theorem OwnB.fr {S : Nat → Prop} {w w' : World} {v : Value} {bs : List UInt8} (h : OwnB w v bs) (hf : Fr S w w') (hs : ∀ k, v.ownBlock = some k → ¬ S k) : OwnB w' v bs := by
  refine ⟨h.1, ?_⟩
  rcases h.2 with hn | ⟨g, cap, cur, rfl, hb, hg, r⟩
  · exact .inl hn
  · exact .inr ⟨g, cap, cur, rfl, hb, hf.keeps (hs g rfl) hg, r⟩


/-- Some slice of new memory holds bs. -/
def NewBytes (bs : List UInt8) (w : World) (e : Ending) (w' : World) : Prop :=
  ∃ a c, e = .returned (.slice a bs.length c) ∧ Bs w' a c bs ∧ Fr F0 w w' ∧ ∀ b, ablk a = some b → w.heap.size ≤ b ∧ b < w'.heap.size
end Go.Proofs.Ytkaoadijijahhaa

/- Two rows of bytes, held against each other. Nothing here speaks of the program. -/
namespace Go.Proofs.Ytkaoadijijahhaa
set_option maxRecDepth 100000
set_option linter.unusedVariables false
set_option linter.unusedSimpArgs false
open Go.RowKit

theorem run_eqItems_bytes {P : Program} (w : World) (e : TypeId) (d : Nat) (hp : P.plainKey e = true) (he : P.underlying e = some (.int .u8)) (l m : List UInt8) (n : Nat) (hl : l.length = n) (hm : m.length = n) :
    ∀ is : List Nat, (∀ i ∈ is, i < n) → (Op.eqItems (d + 1) e 1 (l.map B8).toArray (m.map B8).toArray is).run P w = .ok (is.all fun i => decide (l.getD i 0 = m.getD i 0)) w
  | [], _ => by simp [Op.eqItems]
  | i :: is, h => by
    have hi := h i (by simp)
    have h1 := run_part_plain w hp (show (l.map B8).toArray[i * 1]? = some (B8 (l.getD i 0)) by simp [List.getD, List.getElem?_eq_getElem (show i < l.length by omega)])
    have h2 := run_part_plain w hp (show (m.map B8).toArray[i * 1]? = some (B8 (m.getD i 0)) by simp [List.getD, List.getElem?_eq_getElem (show i < m.length by omega)])
    have h4 := run_eqItems_bytes w e d hp he l m n hl hm is fun j hj => h j (by simp [hj])
    have hall : (List.all (i :: is) fun i => decide (l.getD i 0 = m.getD i 0)) = (decide (l.getD i 0 = m.getD i 0) && List.all is fun i => decide (l.getD i 0 = m.getD i 0)) := rfl
    rw [hall]
    generalize (List.all is fun i => decide (l.getD i 0 = m.getD i 0)) = r at *
    generalize l.getD i 0 = x at *
    generalize m.getD i 0 = y at *
    have h3 : (Op.equalIn (d + 1) e (B8 x) (B8 y)).run P w = .ok (decide (x = y)) w := by
      have e1 : ((x.toNat : Int) == (y.toNat : Int)) = decide (x = y) := by
        by_cases hq : x = y
        · subst hq; simp
        · have : x.toNat ≠ y.toNat := fun e => hq (UInt8.toNat_inj.1 e)
          have h5 : ¬ (x.toNat : Int) = (y.toNat : Int) := by omega
          rw [decide_eq_false hq]
          exact beq_false_of_ne h5
      rw [← e1]
      simp [Op.equalIn, B8, Sem.run_bind, run_underlying he]
    simp only [Op.eqItems, Sem.run_bind, h1, h2, h3, Result.andThen_ok]
    by_cases hq : x = y
    · simp [hq, h4]
    · simp [hq]

theorem run_eql_bytes {P : Program} (w : World) (t e : TypeId) (n : Nat) (i : TypeInfo) (hu : P.underlying t = some (.array n e)) (hi : P.info? e = some i) (hc : P.cellsOf e = 1) (hp : P.plainKey e = true) (he : P.underlying e = some (.int .u8)) (l m : List UInt8) (hl : l.length = n) (hm : m.length = n) :
    (binOp .eql t (.agg (l.map B8).toArray) (.agg (m.map B8).toArray)).run P w = .ok (.bool (decide (l = m))) w := by
  rw [run_eql_struct, run_equalIn_array w 9999 _ _ hu hi, hc, run_eqItems_bytes w e 9998 hp he l m n hl hm _ (fun j hj => List.mem_range.1 hj)]
  simp only [Result.andThen_ok]
  congr 2
  rw [Bool.eq_iff_iff]
  simp only [List.all_eq_true, List.mem_range, decide_eq_true_eq]
  constructor
  · intro h
    apply List.ext_getElem (by omega)
    intro j h1 h2
    have := h j (by omega)
    simpa [List.getD, List.getElem?_eq_getElem h1, List.getElem?_eq_getElem h2] using this
  · rintro rfl j _
    rfl
end Go.Proofs.Ytkaoadijijahhaa
