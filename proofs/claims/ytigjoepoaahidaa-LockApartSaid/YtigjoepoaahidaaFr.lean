/- Words for memory that changes at some blocks alone, for slices that are read, and laws on append and conversions in these words. Nothing here speaks of the program. -/
import Derived.Test.YtigjoepoaahidaaRows
import Derived.WalkKit
import Derived.WalkSpells
import Derived.WalkLawsBesides
import Derived.Lib.Hide
import Derived.Deep.Draws
namespace Go.Proofs.Ytigjoepoaahidaa
set_option linter.unusedVariables false
set_option linter.unusedSimpArgs false
open Go.RowKit

/-- But for the blocks of S, and new ones, w' is as w. -/
structure Fr (S : Nat → Prop) (w w' : World) : Prop where
  os : w'.os = w.os
  tape : w'.tape = w.tape
  output : w'.output = w.output
  size : w.heap.size ≤ w'.heap.size
  block : ∀ k, k < w.heap.size → ¬ S k → w'.heap[k]? = w.heap[k]?

def F0 : Nat → Prop := fun _ => False

theorem Fr.refl (S : Nat → Prop) (w : World) : Fr S w w := ⟨rfl, rfl, rfl, Nat.le_refl _, fun _ _ _ => rfl⟩

theorem Fr.mono {S T : Nat → Prop} {w w' : World} (h : Fr S w w') (hs : ∀ k, k < w.heap.size → S k → T k) : Fr T w w' :=
  ⟨h.os, h.tape, h.output, h.size, fun k hk ht => h.block k hk fun s => ht (hs k hk s)⟩

theorem Fr.of0 {T : Nat → Prop} {w w' : World} (h : Fr F0 w w') : Fr T w w' := h.mono fun _ _ f => f.elim

/-- Two steps: what the second may change is what the first may, or was made since. -/
theorem Fr.trans {S T : Nat → Prop} {a b c : World} (h : Fr S a b) (k : Fr T b c) (hst : ∀ i, i < a.heap.size → T i → S i) : Fr S a c :=
  ⟨k.os.trans h.os, k.tape.trans h.tape, k.output.trans h.output, Nat.le_trans h.size k.size,
    fun i hi hs => (k.block i (Nat.lt_of_lt_of_le hi h.size) fun t => hs (hst i hi t)).trans (h.block i hi hs)⟩

theorem Fr.trans' {S : Nat → Prop} {a b c : World} (h : Fr S a b) (k : Fr S b c) : Fr S a c := h.trans k fun _ _ s => s

theorem Fr.alloc {S : Nat → Prop} {a w : World} (h : Fr S a w) (o : Obj) : Fr S a (w.alloc o) :=
  h.trans (T := F0) ⟨rfl, rfl, rfl, by simp, fun k hk _ => heap_alloc_old w o hk⟩ fun _ _ f => f.elim

theorem Fr.drew {S : Nat → Prop} {a w : World} (h : Fr S a w) : Fr S a w.drew := ⟨h.os, h.tape, h.output, h.size, h.block⟩

theorem Fr.drewN {S : Nat → Prop} {a w : World} (h : Fr S a w) (n : Nat) : Fr S a (w.drewN n) := ⟨h.os, h.tape, h.output, h.size, h.block⟩

theorem Fr.setCell {S : Nat → Prop} {a w : World} (h : Fr S a w) {p : Addr} (hp : p.block < a.heap.size → S p.block) (u : Value) : Fr S a (w.setCell p u) :=
  h.trans (T := fun k => k = p.block) ⟨rfl, rfl, rfl, by simp [World.setCell], fun k _ hk => Below.heap_setCell _ _ _ _ hk⟩ fun i hi e => by subst e; exact hp hi

theorem Fr.grown {S : Nat → Prop} {a w w' : World} {row : Option Nat} (h : Fr S a w) (hg : w.grownBy w' row) (hr : ∀ k, row = some k → k < a.heap.size → S k) : Fr S a w' :=
  h.trans (T := fun k => row = some k) ⟨hg.os, hg.tape, hg.output, hg.size, fun k hk hn => hg.block k hk fun e => hn e.symm⟩ fun i hi e => hr i e hi

theorem Fr.lt {S : Nat → Prop} {w w' : World} (h : Fr S w w') {k : Nat} (hk : k < w.heap.size) : k < w'.heap.size := Nat.lt_of_lt_of_le hk h.size

theorem Fr.cell {S : Nat → Prop} {w w' : World} (h : Fr S w w') {p : Addr} {v : Value} (hp : ¬ S p.block) (hc : w.cell? p = some v) : w'.cell? p = some v :=
  (World.cell?_of_block (h.block p.block (World.block_lt_of_cell? w p hc) hp)).trans hc

theorem Fr.keeps {S : Nat → Prop} {w w' : World} (h : Fr S w w') {k : Nat} {o : Obj} (hp : ¬ S k) (hc : w.heap[k]? = some o) : w'.heap[k]? = some o :=
  (h.block k (Array.getElem?_eq_some_iff.1 hc).1 hp).trans hc

theorem Fr.below {S : Nat → Prop} {w w' : World} {B : Nat} (h : Fr S w w') (hB : B ≤ w.heap.size) (hs : ∀ k, k < B → ¬ S k) : Below B w w' :=
  ⟨h.os, h.tape, h.output, h.size, fun k hk => h.block k (by omega) (hs k hk)⟩

theorem Fr.of_below {w w' : World} (h : Below w.heap.size w w') : Fr F0 w w' := ⟨h.os, h.tape, h.output, h.size, fun k hk _ => h.block k hk⟩

theorem Fr.of_below' {w w' : World} {n : Nat} (h : Below n w w') : Fr (fun k => n ≤ k) w w' := ⟨h.os, h.tape, h.output, h.size, fun k _ hn => h.block k (by omega)⟩

theorem Fr.frozen {S : Nat → Prop} {w w' : World} (h : Fr S w w') {p : Addr} (hp : ¬ S p.block) (hl : p.block < w.heap.size) : w'.frozen? p = w.frozen? p :=
  World.frozen?_of_block (h.block p.block hl hp)

/-- A slice's address, its room, and its elements' cells: size cells an element. -/
structure Sl (w : World) (size : Nat) (a : Option Addr) (c : Nat) (n : Nat) (xs : List Value) : Prop where
  len : xs.length = n * size
  room : n ≤ c
  most : c ≤ maxLen
  nil : a = none → c = 0
  cell : ∀ j u, xs[j]? = some u → ∃ b off, a = some ⟨b, off, none⟩ ∧ w.cell? ⟨b, off + j, none⟩ = some u

def ablk : Option Addr → Option Nat | some a => some a.block | none => none

theorem Sl.kept {w w' : World} {size : Nat} {a : Option Addr} {c n : Nat} {xs : List Value} (h : Sl w size a c n xs)
    (hb : ∀ b, ablk a = some b → b < w.heap.size → w'.heap[b]? = w.heap[b]?) : Sl w' size a c n xs := by
  refine ⟨h.len, h.room, h.most, h.nil, fun j u hj => ?_⟩
  obtain ⟨b, off, rfl, hc⟩ := h.cell j u hj
  have hl : b < w.heap.size := World.block_lt_of_cell? w ⟨b, off + j, none⟩ hc
  exact ⟨b, off, rfl, (World.cell?_of_block (a := ⟨b, off + j, none⟩) (hb b rfl hl)).trans hc⟩

theorem Sl.fr {S : Nat → Prop} {w w' : World} {size : Nat} {a : Option Addr} {c n : Nat} {xs : List Value} (h : Sl w size a c n xs) (hf : Fr S w w')
    (hb : ∀ b, ablk a = some b → ¬ S b) : Sl w' size a c n xs := h.kept fun b e hl => hf.block b hl (hb b e)

theorem Sl.frn {S : Nat → Prop} {w w' : World} {size : Nat} {a : Option Addr} {c n : Nat} {xs : List Value} (h : Sl w size a c n xs) (hf : Fr S w w')
    (hb : xs ≠ [] → ∀ b, ablk a = some b → ¬ S b) : Sl w' size a c n xs := by
  refine ⟨h.len, h.room, h.most, h.nil, fun j u hj => ?_⟩
  have hne : xs ≠ [] := by rintro rfl; simp at hj
  exact (h.fr hf (hb hne)).cell j u hj

theorem Sl.nothing (w : World) (size : Nat) : Sl w size none 0 0 [] := ⟨by simp, Nat.le_refl _, Nat.zero_le _, fun _ => rfl, fun j u h => by simp at h⟩

theorem ablk_own (a : Option Addr) (n c : Nat) : (Value.slice a n c).ownBlock = ablk a := by cases a <;> rfl

theorem Sl.of_own {w : World} {base e size : Nat} {a : Option Addr} {c n m : Nat} {xs : List Value} (h : w.ownsRow base e size (.slice a n c) m xs) : m = n ∧ Sl w size a c n xs := by
  obtain ⟨hl, h⟩ := h
  rcases h with ⟨h, rfl⟩ | ⟨g, cap, cur, h, _, hg, hn, hm, hs, ht⟩
  · simp only [Value.slice.injEq] at h
    obtain ⟨rfl, rfl, rfl⟩ := h
    exact ⟨rfl, by simpa using hl, Nat.le_refl _, Nat.zero_le _, fun _ => rfl, fun j u hj => by
      have : xs = [] := List.eq_nil_of_length_eq_zero (by simpa using hl)
      subst this; simp at hj⟩
  · simp only [Value.slice.injEq] at h
    obtain ⟨rfl, rfl, rfl⟩ := h
    refine ⟨rfl, hl, hn, hm, fun h => by simp at h, fun j u hj => ⟨g, 0, rfl, ?_⟩⟩
    rw [Nat.zero_add, cell_of_row w g j cur e (0, 0) hg]
    rw [← ht, List.getElem?_take] at hj
    split at hj
    · simpa using hj
    · cases hj

/-- The value that owns a row is a slice. -/
theorem own_slice {w : World} {base e size : Nat} {v : Value} {n : Nat} {xs : List Value} (h : w.ownsRow base e size v n xs) : ∃ a c, v = .slice a n c := by
  rcases h.2 with ⟨rfl, rfl⟩ | ⟨g, cap, cur, rfl, _⟩
  · exact ⟨none, 0, rfl⟩
  · exact ⟨_, _, rfl⟩

theorem Sl.addr {w : World} {size : Nat} {a : Addr} {c n : Nat} {xs : List Value} (h : Sl w size (some a) c n xs) : ∀ j u, xs[j]? = some u → w.cell? (a.add j) = some u := by
  intro j u hj
  obtain ⟨b, off, e, hc⟩ := h.cell j u hj
  simp only [Option.some.injEq] at e
  subst e
  rw [Addr.add_lit]
  exact hc

/-- 'append(s, x...)', s nothing or a row of the call's own, x any slice that is read. -/
theorem run_app {P : Program} {w : World} (t ty e : TypeId) (i : TypeInfo) (z : Value) (size bytes : Nat) (ht : P.underlying t = some (.slice e)) (hi : P.info? e = some i) (hz : i.zero = some z)
    (hsize : i.size = size) (hby : i.bytes = bytes) (hzs : z.cells.size = size) (hsz : 0 < size)
    (v : Value) (n : Nat) (xs : List Value) (hown : w.ownsRow 0 e size v n xs) (a : Option Addr) (c m : Nat) (news : List Value) (hs : Sl w size a c m news) (h1 : ∀ u ∈ news, u.oneCell' = true)
    (h63 : n + m ≤ maxLen) (hbytes : (n + m) * bytes ≤ 140737488355328) :
    ∃ v' w', (Builtin.append_ #[t, t] ty #[v, .slice a m c]).run P w = .ok v' w' ∧ w'.ownsRow 0 e size v' (n + m) (xs ++ news) ∧ w.grownBy w' v.ownBlock ∧
      ∀ k, v'.ownBlock = some k → v.ownBlock = some k ∨ w.heap.size ≤ k := by
  cases a with
  | none =>
    have hc := hs.nil rfl
    have hm : m = 0 := by have := hs.room; omega
    subst hc hm
    have hn : news = [] := List.eq_nil_of_length_eq_zero (by simpa using hs.len)
    subst hn
    refine ⟨v, w, run_append_owned_none w 0 t ty e i size ht hi v n xs hown, by simpa using hown, ⟨rfl, rfl, rfl, Nat.le_refl _, fun _ _ _ => rfl⟩, fun k hk => .inl hk⟩
  | some a =>
    obtain ⟨v', w', h, h', h'', _⟩ := run_append_own (P := P) w 0 t ty e i z size bytes ht hi hz hsize hby hzs hsz v n xs hown a m c news hs.len hs.addr h1 h63 hbytes (Nat.zero_le _)
    refine ⟨v', w', h, h', h'', fun k hk => ?_⟩
    subst hsize
    subst hby
    have hsmall : n + m ≤ 9223372036854775807 := by simp only [maxLen] at h63; omega
    by_cases hm : m = 0
    · subst hm
      have hn : news = [] := List.eq_nil_of_length_eq_zero (by simpa using hs.len)
      subst hn
      rcases hown.2 with ⟨rfl, rfl⟩ | ⟨g, cap, cur, rfl, hbg, hg, hnc, hcm, hcs, htake⟩
      · have hr : (Builtin.append_ #[t, t] ty #[.slice none 0 0, .slice (some a) 0 c]).run P w = .ok (.slice none 0 0) w := by
          simp [Builtin.append_, run_underlying ht, sizeOf, typeInfo, hi, Builtin.lenOf, Builtin.firstCells, loadCells, loadCellsFrom]
        rw [hr] at h
        cases h
        simp [Value.ownBlock] at hk
      · have hr := run_append_room (P := P) w t ty e i ht hi g n cap cur hg a 0 c [] hs.len hs.addr h1 (by omega) (by rw [hcs]; simp; exact Nat.mul_le_mul_right _ hnc)
        rw [hr] at h
        cases h
        exact .inl hk
    · rcases hown.2 with ⟨rfl, rfl⟩ | ⟨g, cap, cur, rfl, hbg, hg, hnc, hcm, hcs, htake⟩
      · have hr := run_append_nil (P := P) w t ty e i z ht hi hz a m c news hs.len hs.addr (by omega) (by omega) (by simp at hbytes; omega)
        rw [hr] at h
        cases h
        simp [Value.ownBlock] at hk
        exact .inr (by omega)
      · by_cases hroom : n + m ≤ cap
        · have hr := run_append_room (P := P) w t ty e i ht hi g n cap cur hg a m c news hs.len hs.addr h1 hroom (by rw [hs.len, hcs, ← Nat.add_mul]; exact Nat.mul_le_mul_right _ hroom)
          rw [hr] at h
          cases h
          exact .inl hk
        · have hr := run_append_grow (P := P) w t ty e i z ht hi hz ⟨g, 0, none⟩ n cap xs hown.1 (hown.cells (g := g) rfl) a m c news hs.len hs.addr (by omega) (by omega) (growslice_fits (by omega) hbytes)
          rw [hr] at h
          cases h
          simp [Value.ownBlock] at hk
          exact .inr (by omega)

theorem wpList_app {P : Program} {w : World} {ops : Array Oper} {rest : List Oper} {o : Oper} {a : Act} {Q : Exit → Act → World → Prop} (hgd : o.guard = none) (s x : Operand) (t : TypeId)
    (ho : o.op = .call { callee := .builtin .append, args := #[s, x], argTypes := #[t, t] })
    (e : TypeId) (i : TypeInfo) (z : Value) (size bytes : Nat) (ht : P.underlying t = some (.slice e)) (hi : P.info? e = some i) (hz : i.zero = some z)
    (hsize : i.size = size) (hby : i.bytes = bytes) (hzs : z.cells.size = size) (hsz : 0 < size)
    (v : Value) (n : Nat) (xs : List Value) (hs : a.eval s = v) (hown : w.ownsRow 0 e size v n xs)
    (ad : Option Addr) (c m : Nat) (news : List Value) (hx : a.eval x = .slice ad m c) (hsl : Sl w size ad c m news) (h1 : ∀ u ∈ news, u.oneCell' = true)
    (h63 : n + m ≤ maxLen) (hbytes : (n + m) * bytes ≤ 140737488355328)
    (h : ∀ a' c' w', w'.ownsRow 0 e size (.slice a' (n + m) c') (n + m) (xs ++ news) → w.grownBy w' v.ownBlock → (∀ k, ablk a' = some k → v.ownBlock = some k ∨ w.heap.size ≤ k) → wpList P ops Q rest (a.put o.dst (.slice a' (n + m) c')) w') : wpList P ops Q (o :: rest) a w := by
  refine wpList_plain hgd fun K hK => ?_
  obtain ⟨v', w', hr, h2, h3, h4⟩ := run_app (P := P) t o.type e i z size bytes ht hi hz hsize hby hzs hsz v n xs hown ad c m news hsl h1 h63 hbytes
  obtain ⟨a', c', rfl⟩ := own_slice h2
  unfold Oper.wp execOp
  simp only [ho, resolve, invoke, builtin, Sem.run_bind, Sem.run_pure, Result.andThen_ok, List.map_toArray, List.map_cons, List.map_nil, hs, hx, hr]
  exact hK _ _ (h a' c' w' h2 h3 (by simpa [ablk_own] using h4))

@[go_sem] theorem run_eql_slice_nil_g {P : Program} (w : World) (t : TypeId) (a : Option Addr) (n c : Nat) (h : P.underlying t = some (.slice (P.elem t))) :
    (binOp .eql t (.slice a n c) (.slice none 0 0)).run P w = .ok (.bool a.isNone) w := Lib.run_eql_slice_nil w t _ a n c 0 0 h

@[go_sem] theorem run_neq_slice_nil_g {P : Program} (w : World) (t : TypeId) (a : Option Addr) (n c : Nat) (h : P.underlying t = some (.slice (P.elem t))) :
    (binOp .neq t (.slice a n c) (.slice none 0 0)).run P w = .ok (.bool (!a.isNone)) w := by
  have := Lib.run_eql_slice_nil w t _ a n c 0 0 h
  simp only [binOp] at this ⊢
  cases hq : (Op.equal t (.slice a n c) (.slice none 0 0)).run P w with
  | ok v w' => simp_all
  | halt x w' => simp_all

/-! ### bytes -/

/-- A byte as a value. -/
def B8 (x : UInt8) : Value := .int .u8 x.toNat

/-- A slice of bytes that is read. -/
def Bs (w : World) (a : Option Addr) (c : Nat) (bs : List UInt8) : Prop := Sl w 1 a c bs.length (bs.map B8)

theorem Bs.at {w : World} {a : Option Addr} {c : Nat} {bs : List UInt8} (h : Bs w a c bs) (j : Nat) (hj : j < bs.length) : ∃ b off, a = some ⟨b, off, none⟩ ∧ w.cell? ⟨b, off + j, none⟩ = some (.int .u8 bs[j].toNat) :=
  h.cell j (B8 bs[j]) (by simp [List.getElem?_map, List.getElem?_eq_getElem hj])

/-- The cells of bytes that are some. -/
theorem Bs.cells {w : World} {a : Option Addr} {c : Nat} {bs : List UInt8} (h : Bs w a c bs) (hne : bs ≠ []) : ∃ b off, a = some ⟨b, off, none⟩ ∧ ∀ j (hj : j < bs.length), w.cell? ⟨b, off + j, none⟩ = some (.int .u8 bs[j].toNat) := by
  obtain ⟨b, off, e, _⟩ := h.at 0 (List.length_pos_iff.2 hne)
  refine ⟨b, off, e, fun j hj => ?_⟩
  obtain ⟨b', off', e', hc⟩ := h.at j hj
  rw [e] at e'
  simp only [Option.some.injEq, Addr.mk.injEq, and_true] at e'
  obtain ⟨rfl, rfl⟩ := e'
  exact hc

theorem Bs.nothing (w : World) : Bs w none 0 [] := Sl.nothing w 1

theorem Bs.of_own {w : World} {base e : Nat} {a : Option Addr} {c n m : Nat} {bs : List UInt8} (h : w.ownsRow base e 1 (.slice a n c) m (bs.map B8)) : m = n ∧ n = bs.length ∧ Bs w a c bs := by
  obtain ⟨rfl, hs⟩ := Sl.of_own h
  have hl := hs.len
  simp at hl
  subst hl
  exact ⟨rfl, rfl, hs⟩

theorem Bs.one {bs : List UInt8} : ∀ u ∈ bs.map B8, u.oneCell' = true := by
  intro u hu
  simp only [List.mem_map] at hu
  obtain ⟨x, _, rfl⟩ := hu
  rfl

def strOf (bs : List UInt8) : ByteArray := ⟨bs.toArray⟩

theorem strOf_toList (bs : List UInt8) : (strOf bs).toList = bs := by
  rw [ByteArray.toList_eq]; simp [strOf]

theorem strOf_size (bs : List UInt8) : (strOf bs).size = bs.length := by simp [strOf, ByteArray.size]

theorem strOf_append (a b : List UInt8) : strOf a ++ strOf b = strOf (a ++ b) := by
  apply ByteArray.ext
  simp [strOf]

/-- 'string(b)'. -/
theorem run_str {P : Program} {w : World} (src dst e : TypeId) (hs : P.underlying src = some (.slice e)) (he : P.underlying e = some (.int .u8)) (hd : P.underlying dst = some .string)
    {a : Option Addr} {c : Nat} {bs : List UInt8} (h : Bs w a c bs) (n : Nat) (hn : n = bs.length) : (convert src dst (.slice a n c)).run P w = .ok (.string (strOf bs)) w := by
  subst hn
  cases a with
  | none =>
    have := h.nil rfl
    have : bs = [] := List.eq_nil_of_length_eq_zero (by have := h.room; omega)
    subst this
    exact run_convert_bytes_nil w src e hs he _ c dst hd
  | some a => exact run_convert_bytes_back w src dst e a c bs hs he hd fun j hj => h.addr j (B8 bs[j]) (by simp [List.getElem?_map, List.getElem?_eq_getElem hj])
end Go.Proofs.Ytigjoepoaahidaa
