import Derived.Test.YthoaalnjmklclaaZ6
import Derived.Test.YthoaalnjmklclaaZ7
import Derived.Test.YthoaalnjmklclaaZ2
import Derived.WideKeyArr2
import Derived.Below
/- Layer 9 (tx): transactions, their bytes, and how they lie in memory. -/
namespace Go.Proofs.Ythoaalnjmklclaa
set_option linter.unusedVariables false
set_option linter.unusedSimpArgs false
open Go.RowKit

/-- An input. -/
structure MI where
  fr : List UInt8
  ix : Nat
  ky : List UInt8
  sq : Nat
/-- An output. -/
structure MO where
  py : Nat
  lk : List UInt8
/-- A transaction. -/
structure MT where
  vr : Nat
  ins : List MI
  outs : List MO
  lt : Nat
def MI.bytes (x : MI) : List UInt8 := x.fr ++ (le 4 x.ix ++ (ctd x.ky ++ le 4 x.sq))
def MO.bytes (x : MO) : List UInt8 := le 8 x.py ++ ctd x.lk
def MT.bytes (t : MT) : List UInt8 := le 4 t.vr ++ (cnt t.ins.length ++ (t.ins.flatMap MI.bytes ++ (cnt t.outs.length ++ (t.outs.flatMap MO.bytes ++ le 4 t.lt))))
structure MI.Ok (x : MI) : Prop where
  fr : x.fr.length = 32
  ix : x.ix < 4294967296
  sq : x.sq < 4294967296
structure MO.Ok (x : MO) : Prop where
  py : x.py < 18446744073709551616
structure MT.Ok (t : MT) : Prop where
  vr : t.vr < 4294967296
  lt : t.lt < 4294967296
  ins : ∀ x ∈ t.ins, x.Ok
  outs : ∀ x ∈ t.outs, x.Ok
def MT.few (t : MT) : Bool := decide (t.ins.length = 0 ∨ t.outs.length = 0)
def MT.long (t : MT) : Bool := decide (64 < t.ins.length ∨ 64 < t.outs.length ∨ (∃ x ∈ t.ins, 520 < x.ky.length) ∨ (∃ x ∈ t.outs, 520 < x.lk.length))
def MT.over (t : MT) : Bool := decide (∃ x ∈ t.outs, 4611686018427387904 < x.py)
def szT (n : Nat) : Bool := decide (n ≤ 4096 ∧ n ≠ 64)
/-- What Bytes answers beside the bytes. -/
def MT.err (t : MT) : Int := if t.few then 16 else if t.long then 3 else if szT t.bytes.length = false then 3 else if t.over then 4 else 0
/-- Keys and locks of at most 600 bytes, of at most 70 inputs and outputs. -/
def MT.small (t : MT) : Bool := decide (t.ins.length ≤ 70 ∧ t.outs.length ≤ 70 ∧ (∀ x ∈ t.ins, x.ky.length ≤ 600) ∧ (∀ x ∈ t.outs, x.lk.length ≤ 600))

/-- An input in memory. -/
structure TI where
  m : MI
  a : Option Addr
  c : Nat
/-- An output in memory. -/
structure TO where
  m : MO
  a : Option Addr
  c : Nat
def TI.row (t : TI) : List Value := t.m.fr.map B8 ++ [.int .u32 (t.m.ix : Int), .slice t.a t.m.ky.length t.c, .int .u32 (t.m.sq : Int)]
def TO.row (t : TO) : List Value := [.int .u64 (t.m.py : Int), .slice t.a t.m.lk.length t.c]
structure TI.Ok (w : World) (t : TI) : Prop where
  m : t.m.Ok
  b : Bs w t.a t.c t.m.ky
structure TO.Ok (w : World) (t : TO) : Prop where
  m : t.m.Ok
  b : Bs w t.a t.c t.m.lk
structure TIs (w : World) (a : Option Addr) (c : Nat) (l : List TI) : Prop where
  sl : Sl w 35 a c l.length (l.flatMap TI.row)
  ok : ∀ t ∈ l, t.Ok w
structure TOs (w : World) (a : Option Addr) (c : Nat) (l : List TO) : Prop where
  sl : Sl w 2 a c l.length (l.flatMap TO.row)
  ok : ∀ t ∈ l, t.Ok w
/-- A transaction in memory. -/
structure TT where
  vr : Nat
  ia : Option Addr
  ic : Nat
  ins : List TI
  oa : Option Addr
  oc : Nat
  outs : List TO
  lt : Nat
def TT.m (t : TT) : MT := ⟨t.vr, t.ins.map TI.m, t.outs.map TO.m, t.lt⟩
def TT.cells (t : TT) : Array Value := #[.int .u32 (t.vr : Int), .slice t.ia t.ins.length t.ic, .slice t.oa t.outs.length t.oc, .int .u32 (t.lt : Int)]
structure TT.Ok (w : World) (t : TT) : Prop where
  vr : t.vr < 4294967296
  lt : t.lt < 4294967296
  ins : TIs w t.ia t.ic t.ins
  outs : TOs w t.oa t.oc t.outs

theorem TI.Ok.fr {w w' : World} {t : TI} (h : t.Ok w) (f : Fr F0 w w') : t.Ok w' := ⟨h.m, Bs.fr7 h.b f⟩
theorem TO.Ok.fr {w w' : World} {t : TO} (h : t.Ok w) (f : Fr F0 w w') : t.Ok w' := ⟨h.m, Bs.fr7 h.b f⟩
theorem Sl.fr7 {w w' : World} {n c m : Nat} {a : Option Addr} {l : List Value} (h : Sl w n a c m l) (f : Fr F0 w w') : Sl w' n a c m l := Sl.fr h f fun _ _ f => f
theorem TIs.fr {w w' : World} {a : Option Addr} {c : Nat} {l : List TI} (h : TIs w a c l) (f : Fr F0 w w') : TIs w' a c l := ⟨h.sl.fr7 f, fun t ht => (h.ok t ht).fr f⟩
theorem TOs.fr {w w' : World} {a : Option Addr} {c : Nat} {l : List TO} (h : TOs w a c l) (f : Fr F0 w w') : TOs w' a c l := ⟨h.sl.fr7 f, fun t ht => (h.ok t ht).fr f⟩
theorem TT.Ok.fr {w w' : World} {t : TT} (h : t.Ok w) (f : Fr F0 w w') : t.Ok w' := ⟨h.vr, h.lt, h.ins.fr f, h.outs.fr f⟩
theorem TIs.most {w : World} {a : Option Addr} {c : Nat} {l : List TI} (h : TIs w a c l) : l.length ≤ 9223372036854775807 := by have h1 := h.sl.room; have h2 := h.sl.most; unfold maxLen at h2; omega
theorem TOs.most {w : World} {a : Option Addr} {c : Nat} {l : List TO} (h : TOs w a c l) : l.length ≤ 9223372036854775807 := by have h1 := h.sl.room; have h2 := h.sl.most; unfold maxLen at h2; omega
theorem TIs.nothing (w : World) : TIs w none 0 [] := ⟨Sl.nothing w 35, fun t ht => by cases ht⟩
theorem TOs.nothing (w : World) : TOs w none 0 [] := ⟨Sl.nothing w 2, fun t ht => by cases ht⟩

theorem flat_get {α β : Type} (f : α → List β) (n : Nat) : ∀ (l : List α), (∀ x ∈ l, (f x).length = n) → ∀ (k : Nat) (h : k < l.length) (i : Nat), i < n → (l.flatMap f)[k * n + i]? = (f l[k])[i]?
  | [], _, k, h, i, _ => absurd h (by simp)
  | x :: l, hl, 0, _, i, hi => by
    rw [List.flatMap_cons, Nat.zero_mul, Nat.zero_add, List.getElem?_append_left (by rw [hl x (by simp)]; exact hi)]
    rfl
  | x :: l, hl, k + 1, h, i, hi => by
    have e := hl x (by simp)
    rw [List.flatMap_cons, List.getElem?_append_right (by rw [e, Nat.succ_mul]; omega), e, show (k + 1) * n + i - n = k * n + i by rw [Nat.succ_mul]; omega,
      flat_get f n l (fun y hy => hl y (by simp [hy])) k (by simpa using h) i hi]
    rfl
theorem TI.row_length {t : TI} (h : t.m.Ok) : t.row.length = 35 := by simp [TI.row, h.fr]
theorem TO.row_length (t : TO) : t.row.length = 2 := rfl
theorem TIs.get {w : World} {a : Option Addr} {c : Nat} {l : List TI} (h : TIs w a c l) (k : Nat) (hk : k < l.length) : l[k].Ok w ∧ ∃ b off, a = some ⟨b, off, none⟩ ∧ ∀ i u, l[k].row[i]? = some u → w.cell? ⟨b, off + k * 35 + i, none⟩ = some u := by
  have hr : ∀ x ∈ l, x.row.length = 35 := fun x hx => TI.row_length (h.ok x hx).m
  have hg := flat_get TI.row 35 l hr k hk
  have h0 := hr _ (List.getElem_mem hk)
  refine ⟨h.ok _ (List.getElem_mem hk), ?_⟩
  obtain ⟨b, off, e, _⟩ := h.sl.cell (k * 35 + 0) _ ((hg 0 (by omega)).trans (List.getElem?_eq_getElem (by omega)))
  refine ⟨b, off, e, fun i u hi => ?_⟩
  have hi' : i < 35 := by have := (List.getElem?_eq_some_iff.1 hi).1; omega
  obtain ⟨b', off', e', hc⟩ := h.sl.cell (k * 35 + i) u ((hg i hi').trans hi)
  rw [e] at e'
  cases e'
  rw [Nat.add_assoc]
  exact hc
theorem TOs.get {w : World} {a : Option Addr} {c : Nat} {l : List TO} (h : TOs w a c l) (k : Nat) (hk : k < l.length) : l[k].Ok w ∧ ∃ b off, a = some ⟨b, off, none⟩ ∧ ∀ i u, l[k].row[i]? = some u → w.cell? ⟨b, off + k * 2 + i, none⟩ = some u := by
  have hg := flat_get TO.row 2 l (fun x _ => TO.row_length x) k hk
  refine ⟨h.ok _ (List.getElem_mem hk), ?_⟩
  obtain ⟨b, off, e, _⟩ := h.sl.cell (k * 2 + 0) _ ((hg 0 (by omega)).trans rfl)
  refine ⟨b, off, e, fun i u hi => ?_⟩
  have hi' : i < 2 := by have := (List.getElem?_eq_some_iff.1 hi).1; rw [TO.row_length] at this; exact this
  obtain ⟨b', off', e', hc⟩ := h.sl.cell (k * 2 + i) u ((hg i hi').trans hi)
  rw [e] at e'
  cases e'
  rw [Nat.add_assoc]
  exact hc

/-! ### inputs and outputs as values -/
theorem Try.szTIn : (Try.prog.info? 68).map (·.size) = some 35 := by kernel_rfl
@[go_sem ↓ high] theorem load_tin (p : Value) : Instr.loadAt 68 p = loadRowAt 68 p := rfl
@[go_sem ↓ high] theorem store_tin (p v : Value) : Instr.storeAt 68 p v = storeRowAt 68 p v := rfl
@[go_sem] theorem run_load_tin (w : World) (g : Nat) : (loadRowAt 68 (.pointer (some ⟨g, 0, none⟩))).run Try.prog w = rowOut Try.prog 68 (.pointer (some ⟨g, 0, none⟩)) w 35 w.heap[g]? :=
  run_loadRowAt w _ g 35 _ Try.underlying68 rfl Try.szTIn
@[go_sem] theorem run_store_tin (w : World) (g : Nat) (cells : Array Value) : (storeRowAt 68 (.pointer (some ⟨g, 0, none⟩)) (.agg cells)).run Try.prog w = rowIn Try.prog 68 (.pointer (some ⟨g, 0, none⟩)) cells g w 35 w.heap[g]? :=
  run_storeRowAt w _ g 35 cells Try.szTIn
def buildTIn (parts : Array (Nat × Value)) : Sem Value := Instr.build 68 parts
@[go_sem ↓ high] theorem build_tin (p : Array (Nat × Value)) : Instr.build 68 p = buildTIn p := rfl
theorem run_buildTIn (w : World) (parts : Array (Nat × Value)) (cells : Array Value) (h : Try.prog.built 68 parts.toList = some cells) : (buildTIn parts).run Try.prog w = .ok (.agg cells) w := run_build w _ parts cells h
/-- A whole input is read. -/
theorem load_in {w : World} {b o : Nat} {t : TI} (h : t.m.Ok) (hc : ∀ i u, t.row[i]? = some u → w.cell? ⟨b, o + i, none⟩ = some u) : (loadRowAt 68 (.pointer (some ⟨b, o, none⟩))).run Try.prog w = .ok (.agg t.row.toArray) w :=
  run_loadAt_mid (P := Try.prog) w b o 68 t.row _ hc Try.underlying68 rfl (by rw [Try.szTIn, TI.row_length h])

/-- An input's cells, by what a walk asks of them. -/
structure InC (t : TI) (C : Array Value) : Prop where
  size : C.size = 35
  c32 : C[32]? = some (.int .u32 (t.m.ix : Int))
  c33 : C[33]? = some (.slice t.a t.m.ky.length t.c)
  c34 : C[34]? = some (.int .u32 (t.m.sq : Int))
  x0 : C.extract 0 32 = (t.m.fr.map B8).toArray
  one : rowOne C
theorem TI.cellsOf {t : TI} (h : t.m.Ok) : InC t t.row.toArray := by
  have e := h.fr
  refine ⟨by simp [TI.row, e], by simp [TI.row, e], by simp [TI.row, List.getElem?_append, e], by simp [TI.row, List.getElem?_append, e], ?_, ?_⟩
  · apply Array.toList_inj.1
    simp [TI.row, e, List.take_append]
  · unfold rowOne
    rw [Array.all_eq_true_iff_forall_mem]
    intro v hv
    simp only [TI.row, List.mem_toArray, List.mem_append, List.mem_map, List.mem_cons, List.not_mem_nil, or_false] at hv
    rcases hv with ⟨_, _, rfl⟩ | rfl | rfl | rfl <;> rfl
end Go.Proofs.Ythoaalnjmklclaa

/- Arguments that are transactions, opened. -/
namespace Go.Proofs.Ythoaalnjmklclaa
set_option linter.unusedVariables false
set_option linter.unusedSimpArgs false
open Go.RowKit Go.ChangeShapes Go.WideShapes Go.Deep

theorem flat_size {α β : Type} (f : α → List β) (n : Nat) (l : List α) (h : ∀ x ∈ l, (f x).length = n) : (l.flatMap f).length = l.length * n := by
  induction l with
  | nil => simp
  | cons x l ih => rw [List.flatMap_cons, List.length_append, h x (by simp), ih fun y hy => h y (by simp [hy]), List.length_cons, Nat.succ_mul, Nat.add_comm]
theorem Sl.of_rows {α : Type} (row : α → List Value) (size : Nat) {w : World} {ad : Addr} {n c : Nat} (l : List α) (hs : ∀ x ∈ l, (row x).length = size) (hl : l.length = n) (hn : n ≤ c) (hc : c ≤ maxLen)
    (h : ∀ i (hi : i < l.length) j u, (row l[i])[j]? = some u → w.cell? ((ad.add (i * size)).add j) = some u) : Sl w size (some ad) c n (l.flatMap row) := by
  subst hl
  refine ⟨flat_size row size l hs, hn, hc, (fun e => by cases e), fun j u hj => ?_⟩
  have hjl : j < l.length * size := by
    have := (List.getElem?_eq_some_iff.1 hj).1
    rwa [flat_size row size l hs] at this
  have hsz : 0 < size := by
    rcases Nat.eq_zero_or_pos size with rfl | h
    · omega
    · exact h
  have hi : j / size < l.length := Nat.div_lt_of_lt_mul (by rw [Nat.mul_comm]; exact hjl)
  have hr : j % size < size := Nat.mod_lt _ hsz
  have e : j / size * size + j % size = j := by rw [Nat.mul_comm]; exact Nat.div_add_mod j size
  rw [← e, flat_get row size l hs _ hi _ hr] at hj
  have hc1 := h _ hi _ _ hj
  have h0l : 0 < l.length := Nat.lt_of_le_of_lt (Nat.zero_le _) hi
  have h0s : 0 < (row l[0]).length := by rw [hs _ (List.getElem_mem h0l)]; exact hsz
  have hs0 := World.cell?_spot (h 0 h0l 0 _ (List.getElem?_eq_getElem h0s))
  obtain ⟨b, off, spot⟩ := ad
  simp [Addr.add] at hs0
  subst hs0
  rw [Addr.add_lit, Addr.add_lit, Nat.add_assoc, e] at hc1
  exact ⟨b, off, rfl, hc1⟩
theorem bytes_of9 (cs : List Value) (n : Nat) (hl : cs.length = n) (h : ∀ i, i < n → ∃ z : Int, (cs.drop i).take 1 = [.int .u8 z] ∧ (Lit.int .u8 z).wf = true) : ∃ l : List UInt8, l.length = n ∧ cs = l.map B8 := by
  induction n generalizing cs with
  | zero => exact ⟨[], rfl, List.eq_nil_of_length_eq_zero hl⟩
  | succ n ih =>
    match cs, hl with
    | c :: cs, hl =>
      obtain ⟨z, e, wf⟩ := h 0 (by omega)
      obtain ⟨l, h1, h2⟩ := ih cs (by simpa using hl) (fun i hi => by simpa using h (i + 1) (by omega))
      simp at e
      have hb : 0 ≤ z ∧ z ≤ 255 := bounds_u8 wf
      refine ⟨UInt8.ofNat z.toNat :: l, by simp [h1], ?_⟩
      rw [List.map_cons, ← h2, e]
      congr 1
      simp only [B8, UInt8.toNat_ofNat']
      congr 1
      omega
theorem split35 (cs : List Value) (h : cs.length = 35) : cs = (cs.drop 0).take 32 ++ ((cs.drop 32).take 1 ++ ((cs.drop 33).take 1 ++ (cs.drop 34).take 1)) := by
  have e : ∀ (a b : Nat) (l : List Value), (l.drop a).take b ++ l.drop (a + b) = l.drop a := fun a b l => by
    rw [← List.drop_drop, List.take_append_drop]
  have e34 : (cs.drop 34).take 1 = cs.drop 34 := List.take_of_length_le (by simp; omega)
  rw [e34, e 33 1 cs, e 32 1 cs, e 0 32 cs]
  rfl

section
variable {H : Type} {enc : TypeId × Value → H} {w : World} {base : Nat} {spare : Nat → Bool} {held : Bool}

theorem cells_hash9 {fuel : Nat} {cs : List Value} {y : DataW H × List MemPlace} (hf : DataW.trod enc Try.prog w base spare held fuel 66 cs = some y) (hl : cs.length = 32) : ∃ l : List UInt8, l.length = 32 ∧ cs = l.map B8 := by
  obtain ⟨xs, m, rfl, hx, hlen, hn, hel⟩ := DataW.trod_array Try.underlying66 hf
  have c1 : Try.prog.cellsOf 5 = 1 := by kernel_rfl
  refine bytes_of9 cs 32 hl (fun i hi => ?_)
  have h := hel i hi
  rw [c1, Nat.mul_one] at h
  rw [List.getElem?_eq_getElem (show i < xs.length by omega)] at h
  obtain ⟨z, e, _, wf⟩ := DataW.trod_int Try.underlying5 h
  exact ⟨z, e, wf⟩
theorem cells_u32_9 {fuel : Nat} {cs : List Value} {y : DataW H × List MemPlace} (hf : DataW.trod enc Try.prog w base spare held fuel 24 cs = some y) : ∃ x : Nat, x < 4294967296 ∧ cs = [.int .u32 (x : Int)] := by
  obtain ⟨z, e, _, wf⟩ := DataW.trod_int Try.underlying24 hf
  have hb := bounds_u32 wf
  obtain ⟨x, rfl⟩ := Int.eq_ofNat_of_zero_le hb.1
  exact ⟨x, by omega, e⟩
theorem cells_amt9 {fuel : Nat} {cs : List Value} {y : DataW H × List MemPlace} (hf : DataW.trod enc Try.prog w base spare held fuel 49 cs = some y) : ∃ x : Nat, x < 18446744073709551616 ∧ cs = [.int .u64 (x : Int)] := by
  obtain ⟨z, e, _, wf⟩ := DataW.trod_int Try.underlying49 hf
  have hb : 0 ≤ z ∧ z ≤ 18446744073709551615 := bounds_u64 wf
  obtain ⟨x, rfl⟩ := Int.eq_ofNat_of_zero_le hb.1
  exact ⟨x, by omega, e⟩
theorem cells_bytes9 {fuel : Nat} {v : Value} {y : DataW H × List MemPlace} (hf : DataW.trod enc Try.prog w base spare held fuel 22 [v] = some y) : ∃ (a : Option Addr) (c : Nat) (bs : List UInt8), v = .slice a bs.length c ∧ Bs w a c bs := by
  have hsl : ∃ a' n' c', v = .slice a' n' c' := by
    rcases open_ints Try.underlying22 Try.underlying5 (by kernel_rfl) hf with ⟨hcs, _⟩ | ⟨ad, l, cap, zs, hcs, _⟩
    · simp only [List.cons.injEq, and_true] at hcs
      exact ⟨_, _, _, hcs⟩
    · simp only [List.cons.injEq, and_true] at hcs
      exact ⟨_, _, _, hcs⟩
  obtain ⟨a', n', c', rfl⟩ := hsl
  obtain ⟨bs, rfl, hb⟩ := open_bytes hf
  exact ⟨a', c', bs, rfl, hb⟩
set_option maxRecDepth 100000 in
theorem open_ins {fuel : Nat} {a : Option Addr} {n c : Nat} {x : DataW H × List MemPlace} (h : DataW.trod enc Try.prog w base spare held fuel 25 [.slice a n c] = some x) :
    ∃ l : List TI, l.length = n ∧ TIs w a c l := by
  rcases open_slice Try.underlying25 h with ⟨hcs, _⟩ | ⟨ad, len, cap, m, k, D, Pl, hcs, _, hl, hm, hmm, _, hi⟩
  · simp only [List.cons.injEq, Value.slice.injEq, and_true] at hcs
    obtain ⟨rfl, rfl, rfl⟩ := hcs
    exact ⟨[], rfl, TIs.nothing w⟩
  · simp only [List.cons.injEq, Value.slice.injEq, and_true] at hcs
    obtain ⟨rfl, rfl, rfl⟩ := hcs
    have hnm : n ≤ m := by rw [hmm]; split <;> omega
    have hC : Try.prog.cellsOf 68 = 35 := by kernel_rfl
    have one : ∀ i, i < n → ∃ t : TI, t.Ok w ∧ (∀ j u, t.row[j]? = some u → w.cell? ((ad.add (i * 35)).add j) = some u) := by
      intro i hin
      obtain ⟨cs, h1, h2⟩ := hi i (by omega)
      rw [hC] at h1
      obtain ⟨_, hlen, hat⟩ := World.cells?_some h1
      obtain ⟨ys, k', _, _, _, hyl, hf⟩ := DataW.trod_struct Try.underlying68 h2
      have k32 : Try.prog.cellsOf 66 = 32 := by kernel_rfl
      have k1 : Try.prog.cellsOf 24 = 1 := by kernel_rfl
      have kb : Try.prog.cellsOf 22 = 1 := by kernel_rfl
      match ys, hyl with
      | [y0, y1, y2, y3], _ =>
        have f0 : DataW.trod enc Try.prog w base spare held k' 66 ((cs.drop 0).take (Try.prog.cellsOf 66)) = some y0 := hf 0 _ rfl
        have f1 : DataW.trod enc Try.prog w base spare held k' 24 ((cs.drop 32).take (Try.prog.cellsOf 24)) = some y1 := hf 1 _ rfl
        have f2 : DataW.trod enc Try.prog w base spare held k' 22 ((cs.drop 33).take (Try.prog.cellsOf 22)) = some y2 := hf 2 _ rfl
        have f3 : DataW.trod enc Try.prog w base spare held k' 24 ((cs.drop 34).take (Try.prog.cellsOf 24)) = some y3 := hf 3 _ rfl
        rw [k32] at f0
        rw [k1] at f1 f3
        rw [kb] at f2
        obtain ⟨fr, b0, e0⟩ := cells_hash9 f0 (by simp; omega)
        obtain ⟨ix, b1, e1⟩ := cells_u32_9 f1
        obtain ⟨sq, b3, e3⟩ := cells_u32_9 f3
        obtain ⟨v, ev⟩ : ∃ v, (cs.drop 33).take 1 = [v] := by
          match hd : (cs.drop 33).take 1, (show ((cs.drop 33).take 1).length = 1 by simp; omega) with
          | [v], _ => exact ⟨v, rfl⟩
        rw [ev] at f2
        obtain ⟨a', c', bs, rfl, hb⟩ := cells_bytes9 f2
        refine ⟨⟨⟨fr, ix, bs, sq⟩, a', c'⟩, ⟨⟨b0, b1, b3⟩, hb⟩, fun j u hj => ?_⟩
        have es : cs = TI.row ⟨⟨fr, ix, bs, sq⟩, a', c'⟩ := by
          have := split35 cs hlen
          rw [e0, e1, ev, e3] at this
          rw [this]
          rfl
        rw [← es] at hj
        have hjl := (List.getElem?_eq_some_iff.1 hj).1
        rw [hat j (by omega)]
        exact hj
    have : Inhabited TI := ⟨⟨⟨[], 0, [], 0⟩, none, 0⟩⟩
    obtain ⟨T, hT⟩ := choose_lt (α := TI) (n := n) (p := fun i t => t.Ok w ∧ (∀ j u, t.row[j]? = some u → w.cell? ((ad.add (i * 35)).add j) = some u)) one
    have hok : ∀ t ∈ (List.range n).map T, t.Ok w := fun t ht => by
      simp only [List.mem_map, List.mem_range] at ht
      obtain ⟨i, hin, rfl⟩ := ht
      exact (hT i hin).1
    refine ⟨(List.range n).map T, by simp, Sl.of_rows TI.row 35 _ (fun t ht => by simp [TI.row, (hok t ht).m.fr]) rfl (by simp; omega) hm (fun i hi j u hj => ?_), hok⟩
    simp only [List.length_map, List.length_range] at hi
    simp only [List.getElem_map, List.getElem_range] at hj
    exact (hT i hi).2 j u hj
set_option maxRecDepth 100000 in
theorem open_outs {fuel : Nat} {a : Option Addr} {n c : Nat} {x : DataW H × List MemPlace} (h : DataW.trod enc Try.prog w base spare held fuel 26 [.slice a n c] = some x) :
    ∃ l : List TO, l.length = n ∧ TOs w a c l := by
  rcases open_slice Try.underlying26 h with ⟨hcs, _⟩ | ⟨ad, len, cap, m, k, D, Pl, hcs, _, hl, hm, hmm, _, hi⟩
  · simp only [List.cons.injEq, Value.slice.injEq, and_true] at hcs
    obtain ⟨rfl, rfl, rfl⟩ := hcs
    exact ⟨[], rfl, TOs.nothing w⟩
  · simp only [List.cons.injEq, Value.slice.injEq, and_true] at hcs
    obtain ⟨rfl, rfl, rfl⟩ := hcs
    have hnm : n ≤ m := by rw [hmm]; split <;> omega
    have hC : Try.prog.cellsOf 55 = 2 := by kernel_rfl
    have one : ∀ i, i < n → ∃ t : TO, t.Ok w ∧ (∀ j u, t.row[j]? = some u → w.cell? ((ad.add (i * 2)).add j) = some u) := by
      intro i hin
      obtain ⟨cs, h1, h2⟩ := hi i (by omega)
      rw [hC] at h1
      obtain ⟨_, hlen, hat⟩ := World.cells?_some h1
      obtain ⟨ys, k', _, _, _, hyl, hf⟩ := DataW.trod_struct Try.underlying55 h2
      have k1 : Try.prog.cellsOf 49 = 1 := by kernel_rfl
      have kb : Try.prog.cellsOf 22 = 1 := by kernel_rfl
      match cs, hlen, ys, hyl with
      | [v0, v1], _, [y0, y1], _ =>
        have f0 : DataW.trod enc Try.prog w base spare held k' 49 (([v0, v1].drop 0).take (Try.prog.cellsOf 49)) = some y0 := hf 0 _ rfl
        have f1 : DataW.trod enc Try.prog w base spare held k' 22 (([v0, v1].drop 1).take (Try.prog.cellsOf 22)) = some y1 := hf 1 _ rfl
        rw [k1] at f0
        rw [kb] at f1
        obtain ⟨py, b0, e0⟩ := cells_amt9 f0
        simp only [List.drop_zero, List.drop_succ_cons, List.take_succ_cons, List.take_zero, List.cons.injEq, and_true] at e0 f1
        subst e0
        obtain ⟨a', c', bs, rfl, hb⟩ := cells_bytes9 f1
        refine ⟨⟨⟨py, bs⟩, a', c'⟩, ⟨⟨b0⟩, hb⟩, fun j u hj => ?_⟩
        have hjl : j < 2 := (List.getElem?_eq_some_iff.1 hj).1
        rw [hat j (by omega)]
        exact hj
    have : Inhabited TO := ⟨⟨⟨0, []⟩, none, 0⟩⟩
    obtain ⟨T, hT⟩ := choose_lt (α := TO) (n := n) (p := fun i t => t.Ok w ∧ (∀ j u, t.row[j]? = some u → w.cell? ((ad.add (i * 2)).add j) = some u)) one
    have hok : ∀ t ∈ (List.range n).map T, t.Ok w := fun t ht => by
      simp only [List.mem_map, List.mem_range] at ht
      obtain ⟨i, hin, rfl⟩ := ht
      exact (hT i hin).1
    refine ⟨(List.range n).map T, by simp, Sl.of_rows TO.row 2 _ (fun t ht => rfl) rfl (by simp; omega) hm (fun i hi j u hj => ?_), hok⟩
    simp only [List.length_map, List.length_range] at hi
    simp only [List.getElem_map, List.getElem_range] at hj
    exact (hT i hi).2 j u hj
theorem is_slice9 {fuel : Nat} {t e : TypeId} {v : Value} {y : DataW H × List MemPlace} (ht : Try.prog.underlying t = some (.slice e)) (hf : DataW.trod enc Try.prog w base spare held fuel t [v] = some y) : ∃ (a : Option Addr) (n c : Nat), v = .slice a n c := by
  rcases open_slice ht hf with ⟨hcs, _⟩ | ⟨ad, len, cap, m, k, D, Pl, hcs, _⟩
  · simp only [List.cons.injEq, and_true] at hcs
    exact ⟨_, _, _, hcs⟩
  · simp only [List.cons.injEq, and_true] at hcs
    exact ⟨_, _, _, hcs⟩

set_option maxRecDepth 100000 in
theorem open_tx {r : Reach} {b0 : Nat} {v : Value} {d : DataW H} {ps : List MemPlace} (hd : DataW.Trod enc Try.prog w base spare held 28 v d ps) (hv : Value.okWide Try.prog w r b0 28 v) :
    ∃ t : TT, t.Ok w ∧ v = .agg t.cells := by
  simp only [Value.okWide, Try.underlying28] at hv
  obtain ⟨cs, rfl, hs, _⟩ := hv
  obtain ⟨fuel, hf⟩ := hd
  obtain ⟨xs, n, _, _, hl, hlen, hc⟩ := DataW.trod_struct Try.underlying28 hf
  have h4 : Try.prog.cellsOf 28 = 4 := by kernel_rfl
  have h1 : Try.prog.cellsOf 24 = 1 := by kernel_rfl
  have hi : Try.prog.cellsOf 25 = 1 := by kernel_rfl
  have ho : Try.prog.cellsOf 26 = 1 := by kernel_rfl
  match xs, hlen with
  | [y0, y1, y2, y3], _ =>
    have k0 : DataW.trod enc Try.prog w base spare held n 24 ((cs.toList.drop 0).take (Try.prog.cellsOf 24)) = some y0 := hc 0 _ rfl
    have k1 : DataW.trod enc Try.prog w base spare held n 25 ((cs.toList.drop 1).take (Try.prog.cellsOf 25)) = some y1 := hc 1 _ rfl
    have k2 : DataW.trod enc Try.prog w base spare held n 26 ((cs.toList.drop 2).take (Try.prog.cellsOf 26)) = some y2 := hc 2 _ rfl
    have k3 : DataW.trod enc Try.prog w base spare held n 24 ((cs.toList.drop 3).take (Try.prog.cellsOf 24)) = some y3 := hc 3 _ rfl
    rw [h1] at k0 k3
    rw [hi] at k1
    rw [ho] at k2
    have hl' : cs.toList.length = 4 := by rw [← h4, ← hl]; rfl
    obtain ⟨l, hcs⟩ : ∃ l, cs.toList = l := ⟨_, rfl⟩
    rw [hcs] at k0 k1 k2 k3 hl'
    match l, hl' with
    | [v0, v1, v2, v3], _ =>
      simp only [List.drop_zero, List.drop_succ_cons, List.take_succ_cons, List.take_zero] at k0 k1 k2 k3
      obtain ⟨x0, b0, e0⟩ := cells_u32_9 k0
      obtain ⟨x3, b3, e3⟩ := cells_u32_9 k3
      simp only [List.cons.injEq, and_true] at e0 e3
      subst e0 e3
      obtain ⟨a1, n1, c1, rfl⟩ := is_slice9 Try.underlying25 k1
      obtain ⟨a2, n2, c2, rfl⟩ := is_slice9 Try.underlying26 k2
      obtain ⟨li, rfl, hli⟩ := open_ins k1
      obtain ⟨lo, rfl, hlo⟩ := open_outs k2
      refine ⟨⟨x0, a1, c1, li, a2, c2, lo, x3⟩, ⟨b0, b3, hli, hlo⟩, ?_⟩
      congr 1
      exact Array.toList_inj.1 hcs
end
end Go.Proofs.Ythoaalnjmklclaa
