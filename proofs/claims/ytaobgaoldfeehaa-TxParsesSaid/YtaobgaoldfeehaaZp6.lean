import Derived.Test.YtaobgaoldfeehaaZp4
import Derived.Test.YtaobgaoldfeehaaZp5
import Derived.Test.YtaobgaoldfeehaaZp2
/- Layer 9 (tx): transactions, their bytes, and how they lie in memory. -/
namespace Go.Proofs.Ytaobgaoldfeehaa
set_option linter.unusedVariables false
set_option linter.unusedSimpArgs false
open Go.RowKit

/-- An input. -/
structure MI where
  fr : List UInt8
  ix : Nat
  ky : List UInt8
  sq : Nat
/-- An output. -/
structure MO where
  py : Nat
  lk : List UInt8
/-- A transaction. -/
structure MT where
  vr : Nat
  ins : List MI
  outs : List MO
  lt : Nat
def MI.bytes (x : MI) : List UInt8 := x.fr ++ (le 4 x.ix ++ (ctd x.ky ++ le 4 x.sq))
def MO.bytes (x : MO) : List UInt8 := le 8 x.py ++ ctd x.lk
def MT.bytes (t : MT) : List UInt8 := le 4 t.vr ++ (cnt t.ins.length ++ (t.ins.flatMap MI.bytes ++ (cnt t.outs.length ++ (t.outs.flatMap MO.bytes ++ le 4 t.lt))))
structure MI.Ok (x : MI) : Prop where
  fr : x.fr.length = 32
  ix : x.ix < 4294967296
  sq : x.sq < 4294967296
structure MO.Ok (x : MO) : Prop where
  py : x.py < 18446744073709551616
structure MT.Ok (t : MT) : Prop where
  vr : t.vr < 4294967296
  lt : t.lt < 4294967296
  ins : ∀ x ∈ t.ins, x.Ok
  outs : ∀ x ∈ t.outs, x.Ok
def MT.few (t : MT) : Bool := decide (t.ins.length = 0 ∨ t.outs.length = 0)
def MT.long (t : MT) : Bool := decide (64 < t.ins.length ∨ 64 < t.outs.length ∨ (∃ x ∈ t.ins, 520 < x.ky.length) ∨ (∃ x ∈ t.outs, 520 < x.lk.length))
def MT.over (t : MT) : Bool := decide (∃ x ∈ t.outs, 4611686018427387904 < x.py)
def szT (n : Nat) : Bool := decide (n ≤ 4096 ∧ n ≠ 64)
/-- What Bytes answers beside the bytes. -/
def MT.err (t : MT) : Int := if t.few then 16 else if t.long then 3 else if szT t.bytes.length = false then 3 else if t.over then 4 else 0
/-- Keys and locks of at most 600 bytes, of at most 70 inputs and outputs. -/
def MT.small (t : MT) : Bool := decide (t.ins.length ≤ 70 ∧ t.outs.length ≤ 70 ∧ (∀ x ∈ t.ins, x.ky.length ≤ 600) ∧ (∀ x ∈ t.outs, x.lk.length ≤ 600))

/-- An input in memory. -/
structure TI where
  m : MI
  a : Option Addr
  c : Nat
/-- An output in memory. -/
structure TO where
  m : MO
  a : Option Addr
  c : Nat
def TI.row (t : TI) : List Value := t.m.fr.map B8 ++ [.int .u32 (t.m.ix : Int), .slice t.a t.m.ky.length t.c, .int .u32 (t.m.sq : Int)]
def TO.row (t : TO) : List Value := [.int .u64 (t.m.py : Int), .slice t.a t.m.lk.length t.c]
structure TI.Ok (w : World) (t : TI) : Prop where
  m : t.m.Ok
  b : Bs w t.a t.c t.m.ky
structure TO.Ok (w : World) (t : TO) : Prop where
  m : t.m.Ok
  b : Bs w t.a t.c t.m.lk
structure TIs (w : World) (a : Option Addr) (c : Nat) (l : List TI) : Prop where
  sl : Sl w 35 a c l.length (l.flatMap TI.row)
  ok : ∀ t ∈ l, t.Ok w
structure TOs (w : World) (a : Option Addr) (c : Nat) (l : List TO) : Prop where
  sl : Sl w 2 a c l.length (l.flatMap TO.row)
  ok : ∀ t ∈ l, t.Ok w
/-- A transaction in memory. -/
structure TT where
  vr : Nat
  ia : Option Addr
  ic : Nat
  ins : List TI
  oa : Option Addr
  oc : Nat
  outs : List TO
  lt : Nat
def TT.m (t : TT) : MT := ⟨t.vr, t.ins.map TI.m, t.outs.map TO.m, t.lt⟩
def TT.cells (t : TT) : Array Value := #[.int .u32 (t.vr : Int), .slice t.ia t.ins.length t.ic, .slice t.oa t.outs.length t.oc, .int .u32 (t.lt : Int)]
structure TT.Ok (w : World) (t : TT) : Prop where
  vr : t.vr < 4294967296
  lt : t.lt < 4294967296
  ins : TIs w t.ia t.ic t.ins
  outs : TOs w t.oa t.oc t.outs

theorem TI.Ok.fr {w w' : World} {t : TI} (h : t.Ok w) (f : Fr F0 w w') : t.Ok w' := ⟨h.m, Bs.fr7 h.b f⟩
theorem TO.Ok.fr {w w' : World} {t : TO} (h : t.Ok w) (f : Fr F0 w w') : t.Ok w' := ⟨h.m, Bs.fr7 h.b f⟩
theorem Sl.fr7 {w w' : World} {n c m : Nat} {a : Option Addr} {l : List Value} (h : Sl w n a c m l) (f : Fr F0 w w') : Sl w' n a c m l := Sl.fr h f fun _ _ f => f
theorem TIs.fr {w w' : World} {a : Option Addr} {c : Nat} {l : List TI} (h : TIs w a c l) (f : Fr F0 w w') : TIs w' a c l := ⟨h.sl.fr7 f, fun t ht => (h.ok t ht).fr f⟩
theorem TOs.fr {w w' : World} {a : Option Addr} {c : Nat} {l : List TO} (h : TOs w a c l) (f : Fr F0 w w') : TOs w' a c l := ⟨h.sl.fr7 f, fun t ht => (h.ok t ht).fr f⟩
theorem TT.Ok.fr {w w' : World} {t : TT} (h : t.Ok w) (f : Fr F0 w w') : t.Ok w' := ⟨h.vr, h.lt, h.ins.fr f, h.outs.fr f⟩
theorem TIs.most {w : World} {a : Option Addr} {c : Nat} {l : List TI} (h : TIs w a c l) : l.length ≤ 9223372036854775807 := by have h1 := h.sl.room; have h2 := h.sl.most; unfold maxLen at h2; omega
theorem TOs.most {w : World} {a : Option Addr} {c : Nat} {l : List TO} (h : TOs w a c l) : l.length ≤ 9223372036854775807 := by have h1 := h.sl.room; have h2 := h.sl.most; unfold maxLen at h2; omega
theorem TIs.nothing (w : World) : TIs w none 0 [] := ⟨Sl.nothing w 35, fun t ht => by cases ht⟩
theorem TOs.nothing (w : World) : TOs w none 0 [] := ⟨Sl.nothing w 2, fun t ht => by cases ht⟩

theorem flat_get {α β : Type} (f : α → List β) (n : Nat) : ∀ (l : List α), (∀ x ∈ l, (f x).length = n) → ∀ (k : Nat) (h : k < l.length) (i : Nat), i < n → (l.flatMap f)[k * n + i]? = (f l[k])[i]?
  | [], _, k, h, i, _ => absurd h (by simp)
  | x :: l, hl, 0, _, i, hi => by
    rw [List.flatMap_cons, Nat.zero_mul, Nat.zero_add, List.getElem?_append_left (by rw [hl x (by simp)]; exact hi)]
    rfl
  | x :: l, hl, k + 1, h, i, hi => by
    have e := hl x (by simp)
    rw [List.flatMap_cons, List.getElem?_append_right (by rw [e, Nat.succ_mul]; omega), e, show (k + 1) * n + i - n = k * n + i by rw [Nat.succ_mul]; omega,
      flat_get f n l (fun y hy => hl y (by simp [hy])) k (by simpa using h) i hi]
    rfl
theorem TI.row_length {t : TI} (h : t.m.Ok) : t.row.length = 35 := by simp [TI.row, h.fr]
theorem TO.row_length (t : TO) : t.row.length = 2 := rfl
theorem TIs.get {w : World} {a : Option Addr} {c : Nat} {l : List TI} (h : TIs w a c l) (k : Nat) (hk : k < l.length) : l[k].Ok w ∧ ∃ b off, a = some ⟨b, off, none⟩ ∧ ∀ i u, l[k].row[i]? = some u → w.cell? ⟨b, off + k * 35 + i, none⟩ = some u := by
  have hr : ∀ x ∈ l, x.row.length = 35 := fun x hx => TI.row_length (h.ok x hx).m
  have hg := flat_get TI.row 35 l hr k hk
  have h0 := hr _ (List.getElem_mem hk)
  refine ⟨h.ok _ (List.getElem_mem hk), ?_⟩
  obtain ⟨b, off, e, _⟩ := h.sl.cell (k * 35 + 0) _ ((hg 0 (by omega)).trans (List.getElem?_eq_getElem (by omega)))
  refine ⟨b, off, e, fun i u hi => ?_⟩
  have hi' : i < 35 := by have := (List.getElem?_eq_some_iff.1 hi).1; omega
  obtain ⟨b', off', e', hc⟩ := h.sl.cell (k * 35 + i) u ((hg i hi').trans hi)
  rw [e] at e'
  cases e'
  rw [Nat.add_assoc]
  exact hc
theorem TOs.get {w : World} {a : Option Addr} {c : Nat} {l : List TO} (h : TOs w a c l) (k : Nat) (hk : k < l.length) : l[k].Ok w ∧ ∃ b off, a = some ⟨b, off, none⟩ ∧ ∀ i u, l[k].row[i]? = some u → w.cell? ⟨b, off + k * 2 + i, none⟩ = some u := by
  have hg := flat_get TO.row 2 l (fun x _ => TO.row_length x) k hk
  refine ⟨h.ok _ (List.getElem_mem hk), ?_⟩
  obtain ⟨b, off, e, _⟩ := h.sl.cell (k * 2 + 0) _ ((hg 0 (by omega)).trans rfl)
  refine ⟨b, off, e, fun i u hi => ?_⟩
  have hi' : i < 2 := by have := (List.getElem?_eq_some_iff.1 hi).1; rw [TO.row_length] at this; exact this
  obtain ⟨b', off', e', hc⟩ := h.sl.cell (k * 2 + i) u ((hg i hi').trans hi)
  rw [e] at e'
  cases e'
  rw [Nat.add_assoc]
  exact hc

/-! ### inputs and outputs as values -/
theorem Try.szTIn : (Try.prog.info? 68).map (·.size) = some 35 := by kernel_rfl
@[go_sem ↓ high] theorem load_tin (p : Value) : Instr.loadAt 68 p = loadRowAt 68 p := rfl
@[go_sem ↓ high] theorem store_tin (p v : Value) : Instr.storeAt 68 p v = storeRowAt 68 p v := rfl
@[go_sem] theorem run_load_tin (w : World) (g : Nat) : (loadRowAt 68 (.pointer (some ⟨g, 0, none⟩))).run Try.prog w = rowOut Try.prog 68 (.pointer (some ⟨g, 0, none⟩)) w 35 w.heap[g]? :=
  run_loadRowAt w _ g 35 _ Try.underlying68 rfl Try.szTIn
@[go_sem] theorem run_store_tin (w : World) (g : Nat) (cells : Array Value) : (storeRowAt 68 (.pointer (some ⟨g, 0, none⟩)) (.agg cells)).run Try.prog w = rowIn Try.prog 68 (.pointer (some ⟨g, 0, none⟩)) cells g w 35 w.heap[g]? :=
  run_storeRowAt w _ g 35 cells Try.szTIn
def buildTIn (parts : Array (Nat × Value)) : Sem Value := Instr.build 68 parts
@[go_sem ↓ high] theorem build_tin (p : Array (Nat × Value)) : Instr.build 68 p = buildTIn p := rfl
theorem run_buildTIn (w : World) (parts : Array (Nat × Value)) (cells : Array Value) (h : Try.prog.built 68 parts.toList = some cells) : (buildTIn parts).run Try.prog w = .ok (.agg cells) w := run_build w _ parts cells h
/-- A whole input is read. -/
theorem load_in {w : World} {b o : Nat} {t : TI} (h : t.m.Ok) (hc : ∀ i u, t.row[i]? = some u → w.cell? ⟨b, o + i, none⟩ = some u) : (loadRowAt 68 (.pointer (some ⟨b, o, none⟩))).run Try.prog w = .ok (.agg t.row.toArray) w :=
  run_loadAt_mid (P := Try.prog) w b o 68 t.row _ hc Try.underlying68 rfl (by rw [Try.szTIn, TI.row_length h])

/-- An input's cells, by what a walk asks of them. -/
structure InC (t : TI) (C : Array Value) : Prop where
  size : C.size = 35
  c32 : C[32]? = some (.int .u32 (t.m.ix : Int))
  c33 : C[33]? = some (.slice t.a t.m.ky.length t.c)
  c34 : C[34]? = some (.int .u32 (t.m.sq : Int))
  x0 : C.extract 0 32 = (t.m.fr.map B8).toArray
  one : rowOne C
theorem TI.cellsOf {t : TI} (h : t.m.Ok) : InC t t.row.toArray := by
  have e := h.fr
  refine ⟨by simp [TI.row, e], by simp [TI.row, e], by simp [TI.row, List.getElem?_append, e], by simp [TI.row, List.getElem?_append, e], ?_, ?_⟩
  · apply Array.toList_inj.1
    simp [TI.row, e, List.take_append]
  · unfold rowOne
    rw [Array.all_eq_true_iff_forall_mem]
    intro v hv
    simp only [TI.row, List.mem_toArray, List.mem_append, List.mem_map, List.mem_cons, List.not_mem_nil, or_false] at hv
    rcases hv with ⟨_, _, rfl⟩ | rfl | rfl | rfl <;> rfl
end Go.Proofs.Ytaobgaoldfeehaa
