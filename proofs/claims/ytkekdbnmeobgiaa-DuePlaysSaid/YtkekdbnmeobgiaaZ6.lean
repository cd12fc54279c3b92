import Derived.Test.YtkekdbnmeobgiaaZ5
import Derived.Test.YtkekdbnmeobgiaaZ4
import Derived.Test.YtkekdbnmeobgiaaZ1
import Derived.Laws.IdiomCopy
import Derived.Shelf.SlSortCmp.WholeK
import Derived.Test.YtkekdbnmeobgiaaZ3
import Derived.Test.YtkekdbnmeobgiaaZ2
import Derived.Sort.CutIn
/- Layer 18 (due): rows of things in memory, a table; New, all, Len, Last. -/
namespace Go.Proofs.Ytkekdbnmeobgiaa
set_option maxRecDepth 100000
set_option linter.unusedVariables false
set_option linter.unusedSimpArgs false
open Go.RowKit

/-- A thing, its number, and by which tick it is due. -/
structure Ro where
  id : Nat
  due : Nat
  x : ByteArray
instance : Inhabited Ro := ⟨⟨0, 0, ⟨#[]⟩⟩⟩
def encR (r : Ro) : List Value := [.int .u64 (r.id : Int), .int .u64 (r.due : Int), .string r.x]
theorem encR_len (r : Ro) : (encR r).length = 3 := rfl
theorem encR_one (r : Ro) : ∀ u ∈ encR r, u.oneCell' = true := by
  intro u hu
  simp only [encR, List.mem_cons, List.not_mem_nil, or_false] at hu
  rcases hu with rfl | rfl | rfl <;> rfl
theorem rowOne_R (a b : Int) (x : ByteArray) : rowOne #[.int .u64 a, .int .u64 b, .string x] := by
  unfold rowOne
  rw [Array.all_eq_true_iff_forall_mem]
  intro v hv
  simp only [List.mem_toArray, List.mem_cons, List.not_mem_nil, or_false] at hv
  rcases hv with rfl | rfl | rfl <;> rfl

theorem flat_getE {α : Type} {enc : α → List Value} {size : Nat} (he : ∀ x, (enc x).length = size) : ∀ (l : List α) (i j : Nat) (x : α), l[i]? = some x → j < size → (l.flatMap enc)[i * size + j]? = (enc x)[j]?
  | [], i, j, x, h, _ => by simp at h
  | y :: l, 0, j, x, h, hj => by
    simp only [List.getElem?_cons_zero, Option.some.injEq] at h
    subst h
    rw [List.flatMap_cons, Nat.zero_mul, Nat.zero_add, List.getElem?_append_left (by rw [he]; exact hj)]
  | y :: l, i + 1, j, x, h, hj => by
    rw [List.flatMap_cons, List.getElem?_append_right (by rw [he, Nat.add_mul]; omega), he, show (i + 1) * size + j - size = i * size + j by rw [Nat.add_mul]; omega]
    exact flat_getE he l i j x (by simpa using h) hj
theorem flat_lenE {α : Type} {enc : α → List Value} {size : Nat} (he : ∀ x, (enc x).length = size) : ∀ (l : List α), (l.flatMap enc).length = l.length * size
  | [] => by simp
  | y :: l => by rw [List.flatMap_cons, List.length_append, flat_lenE he l, he, List.length_cons, Nat.add_mul]; omega

theorem Try.szDRow : (Try.prog.info? 65).map (·.size) = some 3 := by kernel_rfl
theorem Try.infoDRow : (Try.prog.info? 65).map (fun i => (i.zero, i.size, i.bytes)) = some (some (.agg #[.int .u64 0, .int .u64 0, .string ⟨#[]⟩]), 3, 32) := by kernel_rfl
@[go_sem ↓ high] theorem load_drow (p : Value) : Instr.loadAt 65 p = loadRowAt 65 p := rfl
@[go_sem ↓ high] theorem store_drow (p v : Value) : Instr.storeAt 65 p v = storeRowAt 65 p v := rfl
@[go_sem] theorem run_load_drow (w : World) (g : Nat) : (loadRowAt 65 (.pointer (some ⟨g, 0, none⟩))).run Try.prog w = rowOut Try.prog 65 (.pointer (some ⟨g, 0, none⟩)) w 3 w.heap[g]? :=
  run_loadRowAt w _ g 3 _ Try.underlying65 rfl Try.szDRow
@[go_sem] theorem run_store_drow (w : World) (g : Nat) (cells : Array Value) : (storeRowAt 65 (.pointer (some ⟨g, 0, none⟩)) (.agg cells)).run Try.prog w = rowIn Try.prog 65 (.pointer (some ⟨g, 0, none⟩)) cells g w 3 w.heap[g]? :=
  run_storeRowAt w _ g 3 cells Try.szDRow

/-- A list of rows of one's own. -/
abbrev OwnD (B : Nat) (w : World) (v : Value) (l : List Ro) : Prop := OwnE 65 3 encR B w v l
/-- It is nothing, or a row of memory. -/
theorem OwnD.row {B : Nat} {w : World} {v : Value} {l : List Ro} (h : OwnD B w v l) : (v = .slice none 0 0 ∧ l = []) ∨ ∃ g c, v = .slice (some ⟨g, 0, none⟩) l.length c ∧ B ≤ g ∧ g < w.heap.size ∧ l.length ≤ c ∧ c ≤ maxLen ∧
    ∃ cur, w.heap[g]? = some (.cells cur 65 (0, 0)) ∧ cur.size = c * 3 ∧ cur.toList.take (l.length * 3) = l.flatMap encR := by
  rcases h.own.2 with ⟨h1, h2⟩ | ⟨g, cap, cur, hv, h3, h4, h5, h6, h7, h8⟩
  · exact .inl ⟨h1, List.eq_nil_of_length_eq_zero h2⟩
  · exact .inr ⟨g, cap, hv, h.blk g (by rw [hv]; rfl), (Array.getElem?_eq_some_iff.1 h4).1, h5, h6, cur, h4, h7, h8⟩
theorem OwnD.of_row {w : World} {B g c : Nat} {l : List Ro} {cur : Array Value} (h1 : w.heap[g]? = some (.cells cur 65 (0, 0))) (hB : B ≤ g) (hl : l.length ≤ c) (hc : c ≤ maxLen) (hs : cur.size = c * 3) (ht : cur.toList.take (l.length * 3) = l.flatMap encR) :
    OwnD B w (.slice (some ⟨g, 0, none⟩) l.length c) l :=
  ⟨⟨flat_lenE encR_len l, .inr ⟨g, c, cur, rfl, Nat.zero_le _, h1, hl, hc, hs, ht⟩⟩, fun k hk => by cases hk; exact hB⟩
/-- A row read whole. -/
theorem OwnD.load {B : Nat} {w : World} {g n c : Nat} {l : List Ro} (h : OwnD B w (.slice (some ⟨g, 0, none⟩) n c) l) (i : Nat) (r : Ro) (hr : l[i]? = some r) :
    (loadRowAt 65 (.pointer (some ⟨g, i * 3, none⟩))).run Try.prog w = .ok (.agg #[.int .u64 (r.id : Int), .int .u64 (r.due : Int), .string r.x]) w := by
  have hc := h.own.cells (g := g) rfl
  exact run_loadAt_mid (P := Try.prog) w g (i * 3) 65 [.int .u64 (r.id : Int), .int .u64 (r.due : Int), .string r.x] _ (fun j u hj => by
    have hj' : j < 3 := by have := (List.getElem?_eq_some_iff.1 hj).1; simpa using this
    have := hc (i * 3 + j) u (by rw [flat_getE encR_len l i j r hr hj']; exact hj)
    rw [Addr.add_lit, Nat.zero_add] at this
    exact this) Try.underlying65 rfl (by rw [Try.szDRow]; rfl)
/-- One cell of a row. -/
theorem OwnD.cell {B : Nat} {w : World} {g n c : Nat} {l : List Ro} (h : OwnD B w (.slice (some ⟨g, 0, none⟩) n c) l) (i j : Nat) (r : Ro) (u : Value) (hr : l[i]? = some r) (hu : (encR r)[j]? = some u) :
    Obj.cellAt (i * 3 + j) w.heap[g]? = some u := by
  have hj' : j < 3 := by have := (List.getElem?_eq_some_iff.1 hu).1; simpa [encR] using this
  have := h.own.cells (g := g) rfl (i * 3 + j) u (by rw [flat_getE encR_len l i j r hr hj']; exact hu)
  rw [Addr.add_lit, Nat.zero_add, cell_at] at this
  exact this

/-- A table behind p: how many may be, the last number, its rows. -/
structure DT (B : Nat) (w : World) (p most last : Nat) (v : Value) (l : List Ro) : Prop where
  at_ : w.heap[p]? = some (.cells #[.int .i64 (most : Int), .int .u64 (last : Int), v] 63 (0, 0))
  own : OwnD B w v l
  apart : v.ownBlock ≠ some p
  base : B ≤ p
  most1 : 1 ≤ most ∧ most ≤ 256
  len : l.length ≤ most
  asc : l.Pairwise fun a b => a.id < b.id
  ids : ∀ r ∈ l, 1 ≤ r.id ∧ r.id ≤ last ∧ r.due ≤ 1099511627776
section
variable {B : Nat} {w w' : World} {p most last : Nat} {v : Value} {l : List Ro}
theorem DT.frS {S : Nat → Prop} (d : DT B w p most last v l) (r : Fr S w w') (hp : ¬ S p) (hv : ∀ k, v.ownBlock = some k → ¬ S k) : DT B w' p most last v l :=
  ⟨r.keeps hp d.at_, d.own.frS r hv, d.apart, d.base, d.most1, d.len, d.asc, d.ids⟩
theorem DT.fr0 (d : DT B w p most last v l) (r : Fr F0 w w') : DT B w' p most last v l := d.frS r (fun x => x) fun _ _ x => x
theorem DT.lt (d : DT B w p most last v l) : p < w.heap.size := (Array.getElem?_eq_some_iff.1 d.at_).1
theorem DT.mono {B' : Nat} (d : DT B w p most last v l) (h : B' ≤ B) : DT B' w p most last v l := ⟨d.at_, d.own.mono h, d.apart, Nat.le_trans h d.base, d.most1, d.len, d.asc, d.ids⟩
theorem DT.l256 (d : DT B w p most last v l) : l.length ≤ 256 := Nat.le_trans d.len d.most1.2

set_option maxHeartbeats 4000000 in
theorem drows_any (d : DT B w p most last v l) : Calls Try.prog 24 #[.pointer (some ⟨p, 0, none⟩)] w fun e w' => e = .returned v ∧ w' = w := by
  have e0 := d.at_
  clear d
  go_enter Try.func24, Try.ntmps24
  go_wp2_with fail
  go_ret
  exact ⟨rfl, rfl⟩
set_option maxHeartbeats 4000000 in
theorem drows_nil (w : World) : Calls Try.prog 24 #[.pointer none] w fun e w' => e = .returned (.slice none 0 0) ∧ w' = w := by
  go_enter Try.func24, Try.ntmps24
  go_wp2_with fail
  go_ret
  exact ⟨rfl, rfl⟩
set_option maxHeartbeats 4000000 in
theorem dLen_any (d : DT B w p most last v l) : Calls Try.prog 22 #[.pointer (some ⟨p, 0, none⟩)] w fun e w' => e = .returned (.int .i64 (l.length : Int)) ∧ w' = w := by
  have HR := Lib.hid (drows_any d)
  obtain ⟨a, c, rfl, hs⟩ := d.own.is
  clear d hs
  go_enter Try.func22, Try.ntmps22
  go_wp2_with fail
  (with_reducible refine HR.out.mono ?_); rintro e w1 ⟨rfl, hw⟩; replace hw := hw.symm; subst hw
  go_wp2_with fail
  go_ret
  exact ⟨rfl, rfl⟩
set_option maxHeartbeats 4000000 in
theorem dLen_nil (w : World) : Calls Try.prog 22 #[.pointer none] w fun e w' => e = .returned (.int .i64 0) ∧ w' = w := by
  go_enter Try.func22, Try.ntmps22
  go_wp2_with fail
  (with_reducible refine (drows_nil w).mono ?_); rintro e w1 ⟨rfl, hw⟩; replace hw := hw.symm; subst hw
  go_wp2_with fail
  go_ret
  exact ⟨rfl, rfl⟩
set_option maxHeartbeats 4000000 in
theorem dLast_any (d : DT B w p most last v l) : Calls Try.prog 19 #[.pointer (some ⟨p, 0, none⟩)] w fun e w' => e = .returned (.int .u64 (last : Int)) ∧ w' = w := by
  have e0 := d.at_
  clear d
  go_enter Try.func19, Try.ntmps19
  go_wp2_with fail
  go_ret
  exact ⟨rfl, rfl⟩
set_option maxHeartbeats 4000000 in
theorem dLast_nil (w : World) : Calls Try.prog 19 #[.pointer none] w fun e w' => e = .returned (.int .u64 0) ∧ w' = w := by
  go_enter Try.func19, Try.ntmps19
  go_wp2_with fail
  go_ret
  exact ⟨rfl, rfl⟩
end
set_option maxHeartbeats 4000000 in
theorem dNew_ok (most : Nat) (h : 1 ≤ most ∧ most ≤ 256) (w : World) : Calls Try.prog 7 #[.int .i64 (most : Int)] w fun e w' => ∃ p, e = .returned (.tuple #[.pointer (some ⟨p, 0, none⟩), .int .i64 0]) ∧ DT w.heap.size w' p most 0 (.slice none 0 0) [] ∧ Fr F0 w w' := by
  have l1 : ¬ (most : Int) < 1 := by omega
  have l2 : ¬ (256 : Int) < (most : Int) := by omega
  have d1 : decide ((most : Int) < 1) = false := decide_eq_false l1
  have d2 : decide ((256 : Int) < (most : Int)) = false := decide_eq_false l2
  have l3 : ¬ 256 < most := by omega
  have l4 : ¬ most < 1 := by omega
  have H := Lib.hid h
  clear h
  go_enter Try.func7, Try.ntmps7
  go_wp2_with fail
  go_ret2
  exact ⟨w.heap.size, rfl, ⟨heap_alloc_new _ _, OwnE.nil _ _, (fun e => by cases e), Nat.le_refl _, H.out, Nat.zero_le _, List.Pairwise.nil, (fun r h => by cases h)⟩, (Fr.refl F0 w).alloc _⟩
set_option maxHeartbeats 4000000 in
theorem dNew_no (most : Int) (h : ¬ (1 ≤ most ∧ most ≤ 256)) (w : World) : Calls Try.prog 7 #[.int .i64 most] w fun e w' => e = .returned (.tuple #[.pointer none, .int .i64 1]) ∧ w' = w := by
  by_cases h1 : most < 1
  · have d1 : decide (most < 1) = true := decide_eq_true h1
    clear h
    go_enter Try.func7, Try.ntmps7
    go_wp2_with fail
    go_ret2
    exact ⟨rfl, rfl⟩
  · have d1 : decide (most < 1) = false := decide_eq_false h1
    have l2 : 256 < most := by omega
    have d2 : decide (256 < most) = true := decide_eq_true l2
    clear h
    go_enter Try.func7, Try.ntmps7
    go_wp2_with fail
    go_ret2
    exact ⟨rfl, rfl⟩
end Go.Proofs.Ytkekdbnmeobgiaa

/- Layer 18 (due): where a number's row stands; Get, Late, Set. -/
namespace Go.Proofs.Ytkekdbnmeobgiaa
set_option maxRecDepth 100000
set_option linter.unusedVariables false
set_option linter.unusedSimpArgs false
open Go.RowKit

/-- cmp.Compare of two numbers. -/
def cpr (x y : Nat) : Int := if x < y then -1 else if y < x then 1 else 0
theorem cpr_lt {x y : Nat} (h : x < y) : cpr x y = -1 := if_pos h
theorem cpr_eq (x : Nat) : cpr x x = 0 := by unfold cpr; simp
theorem cpr_gt {x y : Nat} (h : y < x) : cpr x y = 1 := by unfold cpr; rw [if_neg (by omega), if_pos h]
set_option maxHeartbeats 4000000 in
theorem isNaNU_any (x : Nat) (w : World) : Calls Try.prog 38 #[.int .u64 (x : Int)] w fun e w' => e = .returned (.bool false) ∧ w' = w := by
  go_enter Try.func38, Try.ntmps38
  go_wp2_with fail
  go_ret
  exact ⟨rfl, rfl⟩
set_option maxHeartbeats 4000000 in
theorem cmpU_any (x y : Nat) (w : World) : Calls Try.prog 30 #[.int .u64 (x : Int), .int .u64 (y : Int)] w fun e w' => e = .returned (.int .i64 (cpr x y)) ∧ w' = w := by
  have H1 := Lib.hid (isNaNU_any x)
  have H2 := Lib.hid (isNaNU_any y)
  rcases Nat.lt_trichotomy x y with h | h | h
  · rw [cpr_lt h]
    have l1 : (x : Int) < (y : Int) := by omega
    go_enter Try.func30, Try.ntmps30
    go_wp2_with fail
    (with_reducible refine (H1.out _).mono ?_); rintro e w1 ⟨rfl, hw⟩; replace hw := hw.symm; subst hw
    go_wp2_with fail
    (with_reducible refine (H2.out _).mono ?_); rintro e w1 ⟨rfl, hw⟩; replace hw := hw.symm; subst hw
    go_wp2_with fail
    go_ret
    exact ⟨rfl, rfl⟩
  · subst h
    rw [cpr_eq]
    have l1 : ¬ (x : Int) < (x : Int) := by omega
    go_enter Try.func30, Try.ntmps30
    go_wp2_with fail
    (with_reducible refine (H1.out _).mono ?_); rintro e w1 ⟨rfl, hw⟩; replace hw := hw.symm; subst hw
    go_wp2_with fail
    (with_reducible refine (H1.out _).mono ?_); rintro e w1 ⟨rfl, hw⟩; replace hw := hw.symm; subst hw
    go_wp2_with fail
    go_ret
    exact ⟨rfl, rfl⟩
  · rw [cpr_gt h]
    have l1 : ¬ (x : Int) < (y : Int) := by omega
    have l2 : (y : Int) < (x : Int) := by omega
    have l3 : ¬ x < y := by omega
    go_enter Try.func30, Try.ntmps30
    go_wp2_with fail
    (with_reducible refine (H1.out _).mono ?_); rintro e w1 ⟨rfl, hw⟩; replace hw := hw.symm; subst hw
    go_wp2_with fail
    (with_reducible refine (H2.out _).mono ?_); rintro e w1 ⟨rfl, hw⟩; replace hw := hw.symm; subst hw
    go_wp2_with fail
    go_ret
    exact ⟨rfl, rfl⟩
set_option maxHeartbeats 4000000 in
theorem dfind1_any (a b : Nat) (x : ByteArray) (id : Nat) (w : World) :
    Calls Try.prog 40 #[.agg #[.int .u64 (a : Int), .int .u64 (b : Int), .string x], .int .u64 (id : Int)] w fun e w' => e = .returned (.int .i64 (cpr a id)) ∧ Fr F0 w w' := by
  have H1 := Lib.hid (cmpU_any a id)
  generalize cpr a id = z at *
  go_enter Try.func40, Try.ntmps40
  go_wp2_with fail
  (with_reducible refine (H1.out _).mono ?_); rintro e w1 ⟨rfl, hw⟩; replace hw := hw.symm; subst hw
  go_wp2_with fail
  go_ret
  exact ⟨rfl, (Fr.refl F0 w).alloc _⟩

/-- Where the row of a number stands, or would. -/
structure PosR (l : List Ro) (id k : Nat) : Prop where
  le : k ≤ l.length
  lo : ∀ t, t < k → ∀ r, l[t]? = some r → r.id < id
  hi : ∀ t, k ≤ t → ∀ r, l[t]? = some r → id ≤ r.id
theorem asc_at {l : List Ro} (h : l.Pairwise fun a b => a.id < b.id) {i j : Nat} {r s : Ro} (hij : i < j) (hr : l[i]? = some r) (hs : l[j]? = some s) : r.id < s.id := by
  obtain ⟨h1, e1⟩ := List.getElem?_eq_some_iff.1 hr
  obtain ⟨h2, e2⟩ := List.getElem?_eq_some_iff.1 hs
  have := List.pairwise_iff_getElem.1 h i j h1 h2 hij
  rw [e1, e2] at this
  exact this
theorem PosR.yes {l : List Ro} {id k i : Nat} {r : Ro} (h : PosR l id k) (ha : l.Pairwise fun a b => a.id < b.id) (hr : l[i]? = some r) (hi : r.id = id) : k = i := by
  have h1 : ¬ i < k := fun e => by have := h.lo i e r hr; omega
  have h2 : ¬ k < i := fun e => by
    have hk : k < l.length := Nat.lt_of_lt_of_le e (Nat.le_of_lt (List.getElem?_eq_some_iff.1 hr).1)
    have h3 := h.hi k (Nat.le_refl _) l[k] (List.getElem?_eq_getElem hk)
    have h4 := asc_at ha e (List.getElem?_eq_getElem hk) hr
    omega
  omega
/-- What find answers. -/
def hitR (l : List Ro) (id k : Nat) : Bool := match l[k]? with | some r => decide (r.id = id) | none => false

set_option maxRecDepth 100000 in
set_option maxHeartbeats 8000000 in
theorem dBinSearch_any {B : Nat} {w : World} {v : Value} {l : List Ro} (h : OwnD B w v l) (ha : l.Pairwise fun a b => a.id < b.id) (hl : l.length ≤ 100000) (id : Nat) :
    Calls Try.prog 39 #[v, .int .u64 (id : Int), .func (.func 40) #[] #[]] w fun e w' => ∃ k : Nat, e = .returned (.tuple #[.int .i64 (k : Int), .bool (hitR l id k)]) ∧ PosR l id k ∧ Fr F0 w w' := by
  have eg : ∀ args w, (callFunc 40 args).run Try.prog w = .ok (.enter 40 args) w := enters_of Try.func40 (by kernel_rfl) rfl
  have HC := Lib.hid (fun a b x w => dfind1_any a b x id w)
  have HA := Lib.hid ha
  rcases h.row with ⟨rfl, rfl⟩ | ⟨g, c, rfl, -, -, -, -, -⟩
  · clear h ha HC
    go_enter Try.func39, Try.ntmps39
    go_wp2_with fail
    go_loopw [9, 10] (fun x y wr => x = .int .i64 0 ∧ y = .int .i64 0 ∧ wr = w) (fun _ _ _ => 0)
    case atStart => exact ⟨rfl, rfl, rfl⟩
    case round =>
      obtain ⟨rfl, rfl, hw⟩ := hrel
      replace hw := hw.symm
      subst hw
      go_wp2_with fail
      go_ret2
      exact ⟨0, rfl, ⟨Nat.le_refl _, fun t h => absurd h (Nat.not_lt_zero t), fun t _ r h => by simp at h⟩, Fr.refl _ _⟩
  · have HO := Lib.hid h
    obtain ⟨n, hn⟩ : ∃ n, l.length = n := ⟨_, rfl⟩
    rw [hn] at hl HO ⊢
    replace hn := Lib.hid hn
    clear h ha
    go_enter Try.func39, Try.ntmps39
    go_wp2_with fail
    go_loopw [9, 10] (fun x y wr => ∃ lo hi : Nat, x = .int .i64 (lo : Int) ∧ y = .int .i64 (hi : Int) ∧ lo ≤ hi ∧ hi ≤ n ∧ (∀ t, t < lo → ∀ r, l[t]? = some r → r.id < id) ∧ (∀ t, hi ≤ t → ∀ r, l[t]? = some r → id ≤ r.id) ∧ Fr F0 w wr) (fun x y _ => (intOf y).toNat - (intOf x).toNat)
    case atStart => exact ⟨0, n, rfl, rfl, Nat.zero_le _, Nat.le_refl _, (fun t h => absurd h (Nat.not_lt_zero t)), (fun t h r hr => by have := (List.getElem?_eq_some_iff.1 hr).1; have := hn.out; omega), Fr.refl _ _⟩
    case round =>
      obtain ⟨lo, hi, rfl, rfl, hlh, hhn, hlo, hhi, F⟩ := hrel
      have HI := Lib.hid (And.intro hlo (And.intro hhi F))
      clear hlo hhi F
      by_cases hlt : lo < hi
      · have hm : (lo + hi) / 2 < l.length := by have := hn.out; omega
        have hr := List.getElem?_eq_getElem hm
        have hld := OwnD.load (HO.out.fr0 HI.out.2.2) ((lo + hi) / 2) _ hr
        obtain ⟨r, hre⟩ : ∃ r, l[(lo + hi) / 2] = r := ⟨_, rfl⟩
        rw [hre] at hr hld
        obtain ⟨m, hme⟩ : ∃ m, (lo + hi) / 2 = m := ⟨_, rfl⟩
        rw [hme] at hr hld
        have hm2 : ((lo : Int) + (hi : Int)) / 2 = (m : Int) := by omega
        have hmn : m < n := by have := hn.out; omega
        have HR := Lib.hid hr
        have HM := Lib.hid hme
        have HCr := Lib.hid (fun W => HC.out r.id r.due r.x W)
        generalize r.due = rd at *
        generalize r.x = rx at *
        rcases Nat.lt_or_ge r.id id with h1 | h1
        · rw [cpr_lt h1] at HCr
          have H1 := Lib.hid h1
          generalize r.id = ri at hld HCr
          clear h1 hr hre hme HC
          go_wp2_with fail
          (with_reducible refine (HCr.out _).mono ?_); rintro e w1 ⟨rfl, f1⟩
          have F1 := Lib.hid (HI.out.2.2.trans' f1)
          clear f1 hld HCr
          have k1 : IntKind.i64.wrap ((m : Int) + 1) = ((m + 1 : Nat) : Int) := by rw [IntWalk.i64_in _ (by omega)]; omega
          go_wp2_with fail
          go_roundw
          case rel =>
            refine ⟨m + 1, hi, rfl, rfl, by have := HM.out; omega, hhn, fun t ht s hs => ?_, HI.out.2.1, F1.out⟩
            rcases Nat.lt_or_ge t m with h | h
            · have := asc_at HA.out h hs HR.out
              have := H1.out
              omega
            · obtain rfl : t = m := by omega
              have e := HR.out
              rw [hs] at e
              simp only [Option.some.injEq] at e
              subst e
              exact H1.out
          case measure => have := HM.out; simp [intOf]; omega
        · have hz : ¬ cpr r.id id < 0 := by
            unfold cpr
            rw [if_neg (by omega)]
            split <;> omega
          have H1 := Lib.hid h1
          generalize cpr r.id id = z at hz HCr
          generalize r.id = ri at hld HCr
          clear h1 hr hre hme HC
          go_wp2_with fail
          (with_reducible refine (HCr.out _).mono ?_); rintro e w1 ⟨rfl, f1⟩
          have F1 := Lib.hid (HI.out.2.2.trans' f1)
          clear f1 hld HCr
          go_wp2_with fail
          go_roundw
          case rel =>
            refine ⟨lo, m, rfl, rfl, by have := HM.out; omega, by omega, HI.out.1, fun t ht s hs => ?_, F1.out⟩
            rcases Nat.lt_or_ge m t with h | h
            · have := asc_at HA.out h HR.out hs
              have := H1.out
              omega
            · obtain rfl : t = m := by omega
              have e := HR.out
              rw [hs] at e
              simp only [Option.some.injEq] at e
              subst e
              exact H1.out
          case measure => have := HM.out; simp [intOf]; omega
      · obtain rfl : lo = hi := by omega
        have hP : Hid (PosR l id lo) := Lib.hid ⟨by rw [hn.out]; exact hhn, HI.out.1, HI.out.2.1⟩
        by_cases hk : lo < n
        · have hr := List.getElem?_eq_getElem (show lo < l.length by have := hn.out; omega)
          have hld := OwnD.load (HO.out.fr0 HI.out.2.2) lo _ hr
          obtain ⟨r, hre⟩ : ∃ r, l[lo]'(by have := hn.out; omega) = r := ⟨_, rfl⟩
          rw [hre] at hr hld
          have HCr := Lib.hid (fun W => HC.out r.id r.due r.x W)
          have hh : hitR l id lo = decide (r.id = id) := by unfold hitR; rw [hr]
          have hzz : (cpr r.id id == 0) = decide (r.id = id) := by
            unfold cpr
            by_cases h1 : r.id < id
            · rw [if_pos h1, decide_eq_false (by omega)]; rfl
            · rw [if_neg h1]
              by_cases h2 : id < r.id
              · rw [if_pos h2, decide_eq_false (by omega)]; rfl
              · rw [if_neg h2, decide_eq_true (by omega)]; rfl
          generalize decide (r.id = id) = bb at hh hzz
          replace hh := Lib.hid hh
          generalize cpr r.id id = z at hzz HCr
          generalize r.due = rd at hld HCr
          generalize r.x = rx at hld HCr
          generalize r.id = ri at hld HCr
          clear hr hre HC
          go_wp2_with fail
          (with_reducible refine (HCr.out _).mono ?_); rintro e w1 ⟨rfl, f1⟩
          have F1 := Lib.hid (HI.out.2.2.trans' f1)
          clear f1 hld HCr
          go_wp2_with fail
          go_ret2
          exact ⟨lo, congrArg (fun b => Ending.returned (.tuple #[.int .i64 (lo : Int), .bool b])) hh.out.symm, hP.out, F1.out⟩
        · obtain rfl : lo = n := by omega
          have hh : hitR l id lo = false := by unfold hitR; rw [List.getElem?_eq_none (by rw [hn.out]; exact Nat.le_refl _)]
          replace hh := Lib.hid hh
          go_wp2_with fail
          go_ret2
          exact ⟨lo, congrArg (fun b => Ending.returned (.tuple #[.int .i64 (lo : Int), .bool b])) hh.out.symm, hP.out, HI.out.2.2⟩

/-- The number is there, at i. -/
def AtR (l : List Ro) (id i : Nat) (r : Ro) : Prop := l[i]? = some r ∧ r.id = id
theorem hitR_yes {l : List Ro} {id i : Nat} {r : Ro} (h : AtR l id i r) : hitR l id i = true := by
  unfold hitR
  rw [h.1]
  exact decide_eq_true h.2
theorem hitR_no {l : List Ro} {id : Nat} (h : ∀ r ∈ l, r.id ≠ id) (k : Nat) : hitR l id k = false := by
  unfold hitR
  cases hk : l[k]? with
  | none => rfl
  | some r => exact decide_eq_false (h r (List.mem_of_getElem? hk))
section
variable {B : Nat} {w : World} {p most last : Nat} {v : Value} {l : List Ro}
set_option maxHeartbeats 4000000 in
theorem dfind_core (d : DT B w p most last v l) (id : Nat) : Calls Try.prog 32 #[.pointer (some ⟨p, 0, none⟩), .int .u64 (id : Int)] w fun e w' => ∃ k : Nat, e = .returned (.tuple #[.int .i64 (k : Int), .bool (hitR l id k)]) ∧ PosR l id k ∧ Fr F0 w w' := by
  have H1 := Lib.hid (drows_any d)
  have H2 := Lib.hid (dBinSearch_any d.own d.asc (Nat.le_trans d.l256 (by decide)) id)
  clear d
  go_enter Try.func32, Try.ntmps32
  go_wp2_with fail
  (with_reducible refine H1.out.mono ?_); rintro e w1 ⟨rfl, hw⟩; replace hw := hw.symm; subst hw
  go_wp2_with fail
  (with_reducible refine H2.out.mono ?_); rintro e w1 ⟨k, rfl, h1, f1⟩
  have H3 := Lib.hid (And.intro h1 f1)
  clear h1 f1 H1 H2
  obtain ⟨bb, hb⟩ : ∃ b, hitR l id k = b := ⟨_, rfl⟩
  rw [hb]
  replace hb := Lib.hid hb
  go_wp2_with fail
  go_ret2
  exact ⟨k, congrArg (fun b => Ending.returned (.tuple #[.int .i64 (k : Int), .bool b])) hb.out.symm, H3.out⟩
theorem dfind_yes (d : DT B w p most last v l) {id i : Nat} {r : Ro} (h : AtR l id i r) : Calls Try.prog 32 #[.pointer (some ⟨p, 0, none⟩), .int .u64 (id : Int)] w fun e w' => e = .returned (.tuple #[.int .i64 (i : Int), .bool true]) ∧ Fr F0 w w' :=
  (dfind_core d id).mono fun e w' ⟨k, he, hk, f⟩ => by
    obtain rfl := hk.yes d.asc h.1 h.2
    rw [hitR_yes h] at he
    exact ⟨he, f⟩
theorem dfind_no (d : DT B w p most last v l) {id : Nat} (h : ∀ r ∈ l, r.id ≠ id) : Calls Try.prog 32 #[.pointer (some ⟨p, 0, none⟩), .int .u64 (id : Int)] w fun e w' => ∃ k : Nat, e = .returned (.tuple #[.int .i64 (k : Int), .bool false]) ∧ Fr F0 w w' :=
  (dfind_core d id).mono fun e w' ⟨k, he, hk, f⟩ => ⟨k, by rw [he, hitR_no h k], f⟩
set_option maxHeartbeats 4000000 in
theorem dfind_nil (id : Nat) (w : World) : Calls Try.prog 32 #[.pointer none, .int .u64 (id : Int)] w fun e w' => e = .returned (.tuple #[.int .i64 0, .bool false]) ∧ Fr F0 w w' := by
  have H2 := Lib.hid (dBinSearch_any (OwnE.nil 0 w) List.Pairwise.nil (Nat.zero_le _) id)
  go_enter Try.func32, Try.ntmps32
  go_wp2_with fail
  (with_reducible refine (drows_nil w).mono ?_); rintro e w1 ⟨rfl, hw⟩; replace hw := hw.symm; subst hw
  go_wp2_with fail
  (with_reducible refine H2.out.mono ?_); rintro e w1 ⟨k, rfl, h1, f1⟩
  obtain rfl : k = 0 := Nat.eq_zero_of_le_zero h1.le
  have H3 := Lib.hid f1
  rw [show hitR [] id 0 = false from rfl]
  clear h1 f1 H2
  go_wp2_with fail
  go_ret2
  exact ⟨rfl, H3.out⟩
end
end Go.Proofs.Ytkekdbnmeobgiaa

/- Layer 18 (due): Get, Late, Set. -/
namespace Go.Proofs.Ytkekdbnmeobgiaa
set_option maxRecDepth 100000
set_option linter.unusedVariables false
set_option linter.unusedSimpArgs false
open Go.RowKit

theorem set_take {α : Type} (l : List α) (i n : Nat) (x : α) : (l.set i x).take n = (l.take n).set i x := by
  refine List.ext_getElem? fun j => ?_
  rw [List.getElem?_take, List.getElem?_set, List.getElem?_set, List.getElem?_take, List.length_take]
  by_cases h1 : j < n
  · rw [if_pos h1, if_pos h1]
    by_cases h2 : i = j
    · subst h2
      rw [if_pos rfl, if_pos rfl]
      by_cases h3 : i < l.length
      · rw [if_pos h3, if_pos (by omega)]
      · rw [if_neg h3, if_neg (by omega)]
    · rw [if_neg h2, if_neg h2]
  · rw [if_neg h1, if_neg h1]
    by_cases h2 : i = j
    · subst h2; rw [if_pos rfl, if_neg (by omega)]
    · rw [if_neg h2]
/-- One cell of a list's cells is put anew: so is its element. -/
theorem flat_setE {α : Type} {enc : α → List Value} {size : Nat} (he : ∀ x, (enc x).length = size) : ∀ (l : List α) (i j : Nat) (x : α) (u : Value), i < l.length → j < size → (∀ y, l[i]? = some y → (enc y).set j u = enc x) → (l.flatMap enc).set (i * size + j) u = (l.set i x).flatMap enc
  | [], i, j, x, u, h, _, _ => by simp at h
  | y :: l, 0, j, x, u, h, hj, hy => by
    rw [List.flatMap_cons, Nat.zero_mul, Nat.zero_add, List.set_append_left _ _ (by rw [he]; exact hj), hy y rfl]
    rfl
  | y :: l, i + 1, j, x, u, h, hj, hy => by
    rw [List.flatMap_cons, List.set_append_right _ _ (by rw [he, Nat.add_mul]; omega), he, show (i + 1) * size + j - size = i * size + j by rw [Nat.add_mul]; omega]
    rw [flat_setE he l i j x u (by simpa using h) hj (fun z hz => hy z (by simpa using hz))]
    rfl
/-- One cell of a list of one's own is stored. -/
theorem OwnE.setC {α : Type} {e size : Nat} {enc : α → List Value} (he : ∀ x, (enc x).length = size) {B : Nat} {w : World} {g n c : Nat} {l : List α} (h : OwnE e size enc B w (.slice (some ⟨g, 0, none⟩) n c) l) (i j : Nat) (x : α) (u : Value) (hi : i < l.length) (hj : j < size)
    (hy : ∀ y, l[i]? = some y → (enc y).set j u = enc x) : OwnE e size enc B (w.setCell ⟨g, i * size + j, none⟩ u) (.slice (some ⟨g, 0, none⟩) n c) (l.set i x) := by
  rcases h.own.2 with ⟨h1, h2⟩ | ⟨g', cap, cur, hv, h3, h4, h5, h6, h7, h8⟩
  · cases h1
  · cases hv
    refine ⟨⟨by rw [flat_lenE he], .inr ⟨g, c, cur.setIfInBounds (i * size + j) u, ?_, Nat.zero_le _, ?_, by simpa using h5, h6, by simpa using h7, ?_⟩⟩, h.blk⟩
    · simp
    · rw [heap_setCell_at, h4]; rfl
    · rw [Array.toList_setIfInBounds, set_take, List.length_set, h8]
      exact flat_setE he l i j x u hi hj hy
section
variable {B : Nat} {w : World} {p most last : Nat} {v : Value} {l : List Ro}
theorem AtR.some {l : List Ro} {id i : Nat} {r : Ro} (h : AtR l id i r) : i < l.length := (List.getElem?_eq_some_iff.1 h.1).1
/-- What a walk wants of a number that is there. -/
theorem DT.row {id i : Nat} {r : Ro} (d : DT B w p most last v l) (h : AtR l id i r) : ∃ g c, v = .slice (some ⟨g, 0, none⟩) l.length c := by
  rcases d.own.row with ⟨_, e⟩ | ⟨g, c, hv, -, -, -, -, -⟩
  · have := h.some; rw [e] at this; simp at this
  · exact ⟨g, c, hv⟩
set_option maxHeartbeats 4000000 in
theorem dGet_yes (d : DT B w p most last v l) {id i : Nat} {r : Ro} (h : AtR l id i r) : Calls Try.prog 17 #[.pointer (some ⟨p, 0, none⟩), .int .u64 (id : Int)] w fun e w' => e = .returned (.tuple #[.string r.x, .int .u64 (r.due : Int), .bool true]) ∧ Fr F0 w w' := by
  have H1 := Lib.hid (dfind_yes d h)
  obtain ⟨g, c, rfl⟩ := d.row h
  have HD := Lib.hid d
  have HA := Lib.hid h
  have hi := h.some
  have hl := d.l256
  clear d h
  generalize l.length = n at *
  obtain ⟨ri, rd, rx⟩ := r
  go_enter Try.func17, Try.ntmps17
  go_wp2_with fail
  (with_reducible refine H1.out.mono ?_); rintro e w1 ⟨rfl, f1⟩
  have d1 := HD.out.fr0 f1
  have e0 := d1.at_
  have c1 : Obj.cellAt (i * 3 + 1) w1.heap[g]? = some (.int .u64 (rd : Int)) := OwnD.cell d1.own i 1 _ _ HA.out.1 rfl
  have c2 : Obj.cellAt (i * 3 + 2) w1.heap[g]? = some (.string rx) := OwnD.cell d1.own i 2 _ _ HA.out.1 rfl
  have F1 := Lib.hid f1
  clear d1 f1 H1
  go_wp2_with fail
  go_region
  go_wp2_with fail
  go_ret3
  exact ⟨rfl, F1.out.drew⟩
set_option maxHeartbeats 4000000 in
theorem dGet_core {pv : Value} {id : Nat} (h : Calls Try.prog 32 #[pv, .int .u64 (id : Int)] w fun e w' => ∃ k : Nat, e = .returned (.tuple #[.int .i64 (k : Int), .bool false]) ∧ Fr F0 w w') :
    Calls Try.prog 17 #[pv, .int .u64 (id : Int)] w fun e w' => e = .returned (.tuple #[.string ⟨#[]⟩, .int .u64 0, .bool false]) ∧ Fr F0 w w' := by
  have H1 := Lib.hid h
  clear h
  go_enter Try.func17, Try.ntmps17
  go_wp2_with fail
  (with_reducible refine H1.out.mono ?_); rintro e w1 ⟨k, rfl, f1⟩
  have F1 := Lib.hid f1
  clear f1 H1
  go_wp2_with fail
  go_ret3
  exact ⟨rfl, F1.out.alloc _⟩
theorem dGet_no (d : DT B w p most last v l) {id : Nat} (h : ∀ r ∈ l, r.id ≠ id) : Calls Try.prog 17 #[.pointer (some ⟨p, 0, none⟩), .int .u64 (id : Int)] w fun e w' => e = .returned (.tuple #[.string ⟨#[]⟩, .int .u64 0, .bool false]) ∧ Fr F0 w w' :=
  dGet_core (dfind_no d h)
theorem dGet_nil (id : Nat) (w : World) : Calls Try.prog 17 #[.pointer none, .int .u64 (id : Int)] w fun e w' => e = .returned (.tuple #[.string ⟨#[]⟩, .int .u64 0, .bool false]) ∧ Fr F0 w w' :=
  dGet_core ((dfind_nil id w).mono fun e w' h => ⟨0, h⟩)

set_option maxHeartbeats 4000000 in
theorem dLate_yes (d : DT B w p most last v l) {id i : Nat} {r : Ro} (h : AtR l id i r) (now : Nat) (o : Bool) (ho : decide (r.due < now) = o) : Calls Try.prog 15 #[.pointer (some ⟨p, 0, none⟩), .int .u64 (id : Int), .int .u64 (now : Int)] w fun e w' => e = .returned (.bool o) ∧ Fr F0 w w' := by
  have H1 := Lib.hid (dfind_yes d h)
  obtain ⟨g, c, rfl⟩ := d.row h
  have HD := Lib.hid d
  have HA := Lib.hid h
  have hi := h.some
  have hl := d.l256
  clear d h
  generalize l.length = n at *
  obtain ⟨ri, rd, rx⟩ := r
  have ho3 : decide (rd < now) = o := ho
  have ho2 : decide ((rd : Int) < (now : Int)) = o := by rw [← ho3]; exact decide_eq_decide.2 (by omega)
  clear ho
  go_enter Try.func15, Try.ntmps15
  go_wp2_with fail
  (with_reducible refine H1.out.mono ?_); rintro e w1 ⟨rfl, f1⟩
  have d1 := HD.out.fr0 f1
  have e0 := d1.at_
  have c1 : Obj.cellAt (i * 3 + 1) w1.heap[g]? = some (.int .u64 (rd : Int)) := OwnD.cell d1.own i 1 _ _ HA.out.1 rfl
  have F1 := Lib.hid f1
  clear d1 f1 H1
  go_wp2_with fail
  go_ret
  exact ⟨rfl, F1.out⟩
set_option maxHeartbeats 4000000 in
theorem dLate_core {pv : Value} {id : Nat} (now : Nat) (h : Calls Try.prog 32 #[pv, .int .u64 (id : Int)] w fun e w' => ∃ k : Nat, e = .returned (.tuple #[.int .i64 (k : Int), .bool false]) ∧ Fr F0 w w') :
    Calls Try.prog 15 #[pv, .int .u64 (id : Int), .int .u64 (now : Int)] w fun e w' => e = .returned (.bool false) ∧ Fr F0 w w' := by
  have H1 := Lib.hid h
  clear h
  go_enter Try.func15, Try.ntmps15
  go_wp2_with fail
  (with_reducible refine H1.out.mono ?_); rintro e w1 ⟨k, rfl, f1⟩
  have F1 := Lib.hid f1
  clear f1 H1
  go_wp2_with fail
  go_ret
  exact ⟨rfl, F1.out⟩
theorem dLate_no (d : DT B w p most last v l) {id : Nat} (now : Nat) (h : ∀ r ∈ l, r.id ≠ id) : Calls Try.prog 15 #[.pointer (some ⟨p, 0, none⟩), .int .u64 (id : Int), .int .u64 (now : Int)] w fun e w' => e = .returned (.bool false) ∧ Fr F0 w w' :=
  dLate_core now (dfind_no d h)
theorem dLate_nil (id now : Nat) (w : World) : Calls Try.prog 15 #[.pointer none, .int .u64 (id : Int), .int .u64 (now : Int)] w fun e w' => e = .returned (.bool false) ∧ Fr F0 w w' :=
  dLate_core now ((dfind_nil id w).mono fun e w' h => ⟨0, h⟩)

/-- Another thing has the number. -/
def putR (l : List Ro) (i : Nat) (r : Ro) (x : ByteArray) : List Ro := l.set i ⟨r.id, r.due, x⟩
theorem pw_set {l : List Ro} (h : l.Pairwise fun a b => a.id < b.id) {i : Nat} {r s : Ro} (hr : l[i]? = some r) (he : s.id = r.id) : (l.set i s).Pairwise fun a b => a.id < b.id := by
  have e : (l.set i s).map Ro.id = l.map Ro.id := by
    rw [List.map_set, he]
    refine List.ext_getElem? fun j => ?_
    rw [List.getElem?_set]
    by_cases hj : i = j
    · subst hj
      rw [if_pos rfl, List.getElem?_map, hr]
      split
      · rfl
      · rename_i h1
        rw [List.length_map] at h1
        exact absurd (List.getElem?_eq_some_iff.1 hr).1 h1
    · rw [if_neg hj]
  have h2 : (l.map Ro.id).Pairwise (· < ·) := List.pairwise_map.2 h
  rw [← e] at h2
  exact List.pairwise_map.1 h2
theorem DT.put {id i g n c : Nat} {r : Ro} (d : DT B w p most last (.slice (some ⟨g, 0, none⟩) n c) l) (h : AtR l id i r) (x : ByteArray) :
    DT B (w.setCell ⟨g, i * 3 + 2, none⟩ (.string x)) p most last (.slice (some ⟨g, 0, none⟩) n c) (putR l i r x) := by
  have hg : g ≠ p := fun e => d.apart (by rw [e]; rfl)
  have f : Fr (fun k => k = g) w (w.setCell ⟨g, i * 3 + 2, none⟩ (.string x)) := (Fr.refl (fun k => k = g) w).setCell (p := ⟨g, i * 3 + 2, none⟩) (fun _ => rfl) _
  refine ⟨f.keeps (fun e => hg e.symm) d.at_, OwnE.setC encR_len d.own i 2 _ _ h.some (by decide) (fun y hy => ?_), d.apart, d.base, d.most1, by unfold putR; rw [List.length_set]; exact d.len, pw_set d.asc h.1 rfl, fun s hs => ?_⟩
  · rw [h.1] at hy
    cases hy
    rfl
  · rcases List.mem_or_eq_of_mem_set hs with h1 | h1
    · exact d.ids s h1
    · rw [h1]
      exact d.ids r (List.mem_of_getElem? h.1)
set_option maxHeartbeats 4000000 in
theorem dSet_yes (d : DT B w p most last v l) {id i : Nat} {r : Ro} (h : AtR l id i r) (x : ByteArray) : Calls Try.prog 13 #[.pointer (some ⟨p, 0, none⟩), .int .u64 (id : Int), .string x] w fun e w' => e = .returned (.int .i64 0) ∧ DT B w' p most last v (putR l i r x) ∧ Fr (fun k => v.ownBlock = some k) w w' := by
  have H1 := Lib.hid (dfind_yes d h)
  obtain ⟨g, c, rfl⟩ := d.row h
  have HD := Lib.hid d
  have HA := Lib.hid h
  have hi := h.some
  have hl := d.l256
  clear d h
  generalize l.length = n at *
  go_enter Try.func13, Try.ntmps13
  go_wp2_with fail
  (with_reducible refine H1.out.mono ?_); rintro e w1 ⟨rfl, f1⟩
  have d1 := HD.out.fr0 f1
  have e0 := d1.at_
  have c2 : Obj.cellAt (i * 3 + 2) w1.heap[g]? = some (.string r.x) := OwnD.cell d1.own i 2 _ _ HA.out.1 rfl
  have hz : Obj.frozenAt (i * 3 + 2) w1.heap[g]? = false := by
    obtain ⟨g', c', hv, -, -, -, -, cur, hc, -, -⟩ := (OwnD.row d1.own).resolve_left (fun e => by cases e.1)
    cases hv
    rw [hc]; rfl
  have F1 := Lib.hid (And.intro d1 f1)
  clear d1 f1 H1
  go_wp2_with fail
  go_ret
  exact ⟨rfl, F1.out.1.put HA.out x, Fr.setCell (S := fun k => (Value.slice (some ⟨g, 0, none⟩) n c).ownBlock = some k) (F1.out.2.of0) (p := ⟨g, i * 3 + 2, none⟩) (fun _ => rfl) _⟩
set_option maxHeartbeats 4000000 in
theorem dSet_no (d : DT B w p most last v l) {id : Nat} (h : ∀ r ∈ l, r.id ≠ id) (x : ByteArray) : Calls Try.prog 13 #[.pointer (some ⟨p, 0, none⟩), .int .u64 (id : Int), .string x] w fun e w' => e = .returned (.int .i64 12) ∧ Fr F0 w w' := by
  have H1 := Lib.hid (dfind_no d h)
  clear d h
  go_enter Try.func13, Try.ntmps13
  go_wp2_with fail
  (with_reducible refine H1.out.mono ?_); rintro e w1 ⟨k, rfl, f1⟩
  have F1 := Lib.hid f1
  clear f1 H1
  go_wp2_with fail
  go_ret
  exact ⟨rfl, F1.out⟩
set_option maxHeartbeats 4000000 in
theorem dSet_nil (id : Nat) (x : ByteArray) (w : World) : Calls Try.prog 13 #[.pointer none, .int .u64 (id : Int), .string x] w fun e w' => e = .returned (.int .i64 1) ∧ w' = w := by
  go_enter Try.func13, Try.ntmps13
  go_wp2_with fail
  go_ret
  exact ⟨rfl, rfl⟩
end
end Go.Proofs.Ytkekdbnmeobgiaa

/- Layer 18 (due): Add. -/
namespace Go.Proofs.Ytkekdbnmeobgiaa
set_option maxRecDepth 100000
set_option linter.unusedVariables false
set_option linter.unusedSimpArgs false
open Go.RowKit

def appDs (ty : TypeId) (args : Array Value) : Sem Value := Builtin.append_ #[61, 61] ty args
@[go_sem ↓ high] theorem app_Ds (ty : TypeId) (args : Array Value) : Builtin.append_ #[61, 61] ty args = appDs ty args := rfl
theorem OwnD.app {B : Nat} {w : World} {v : Value} {l : List Ro} (h : OwnD B w v l) (r : Ro) (hB : B ≤ w.heap.size) (hl : l.length ≤ 100000) (ty : TypeId) :
    ∃ a c w', (appDs ty #[v, .slice (some ⟨w.heap.size, 0, none⟩) 1 1]).run Try.prog (w.alloc (.cells #[.int .u64 (r.id : Int), .int .u64 (r.due : Int), .string r.x] 65)) = .ok (.slice a (l.length + 1) c) w' ∧ OwnD B w' (.slice a (l.length + 1) c) (l ++ [r]) ∧
      Fr (fun k => v.ownBlock = some k) w w' ∧ w.heap.size < w'.heap.size ∧ ∀ k, (Value.slice a (l.length + 1) c).ownBlock = some k → v.ownBlock = some k ∨ w.heap.size ≤ k := by
  obtain ⟨i0, hi, hz, hs, hb⟩ := info_parts Try.infoDRow
  obtain ⟨W, hW⟩ : ∃ W, W = w.alloc (.cells (encR r).toArray 65) := ⟨_, rfl⟩
  have hnew := heap_alloc_new w (.cells (encR r).toArray 65)
  have fW : Fr F0 w W := by rw [hW]; exact (Fr.refl F0 w).alloc _
  have sW : W.heap.size = w.heap.size + 1 := by rw [hW]; simp
  rw [← hW] at hnew
  have hsl : Sl W 3 (some ⟨w.heap.size, 0, none⟩) 1 1 (encR r) := ⟨rfl, Nat.le_refl _, by unfold maxLen; omega, (fun e => by cases e), fun j u hj => ⟨_, _, rfl, by rw [cell_at, hnew, cellAt_cells, Nat.zero_add]; simpa using hj⟩⟩
  have hbb : (l.length + 1) * 32 ≤ 140737488355328 := by omega
  obtain ⟨v', w', hrun, hown, hg, hnw⟩ := run_app (P := Try.prog) (w := W) 61 ty 65 i0 _ 3 32 Try.underlying61 hi hz hs hb rfl (by decide) v l.length _ (own_frE h.own fW fun _ _ f => f) (some ⟨w.heap.size, 0, none⟩) 1 1 (encR r) hsl
    (encR_one r) (by unfold maxLen; omega) hbb
  obtain ⟨a, c, rfl⟩ := own_slice hown
  have hnb : ∀ k, (Value.slice a (l.length + 1) c).ownBlock = some k → v.ownBlock = some k ∨ w.heap.size ≤ k := fun k hk => by
    rcases hnw k hk with e | e
    · exact .inl e
    · exact .inr (by omega)
  rw [hW] at hrun
  refine ⟨a, c, w', hrun, ⟨?_, fun k hk => ?_⟩, (fW.of0).grown hg fun k hk hl => hk, by have := hg.size; omega, hnb⟩
  · rw [List.length_append, List.flatMap_append]
    simpa using hown
  · rcases hnb k hk with e | e
    · exact h.blk k e
    · omega
section
variable {B : Nat} {w : World} {p most last : Nat} {v : Value} {l : List Ro}
theorem DT.add {la due : Nat} {x : ByteArray} {v' : Value} {w6 w7 w8 : World} (d : DT B w p most last v l) (hl : l.length < most) (hd : due ≤ 1099511627776) (hla : last + 1 = la) (f6 : Fr (fun k => k = p) w w6) (f7 : Fr (fun k => v.ownBlock = some k) w6 w7)
    (o7 : OwnD B w7 v' (l ++ [⟨la, due, x⟩])) (hb : ∀ k, v'.ownBlock = some k → v.ownBlock = some k ∨ w6.heap.size ≤ k) (e8 : w8.heap[p]? = some (.cells #[.int .i64 (most : Int), .int .u64 (la : Int), v'] 63 (0, 0))) (f8 : Fr (fun k => k = p) w7 w8) :
    DT B w8 p most la v' (l ++ [⟨la, due, x⟩]) ∧ Fr (fun k => k = p ∨ v.ownBlock = some k) w w8 ∧ ∀ k, v'.ownBlock = some k → v.ownBlock = some k ∨ w.heap.size ≤ k := by
  have hb' : ∀ k, v'.ownBlock = some k → v.ownBlock = some k ∨ w.heap.size ≤ k := fun k hk => (hb k hk).imp id fun h => Nat.le_trans f6.size h
  have ha : v'.ownBlock ≠ some p := fun e => by
    rcases hb' p e with h | h
    · exact d.apart h
    · have := d.lt; omega
  refine ⟨⟨e8, o7.frS f8 (fun k hk e => ha (by rw [hk]; exact congrArg some e)), ha, d.base, d.most1, by simp; omega, ?_, fun r hr => ?_⟩, ?_, hb'⟩
  · refine List.pairwise_append.2 ⟨d.asc, List.pairwise_singleton _ _, fun a ha b hb => ?_⟩
    obtain rfl := List.mem_singleton.1 hb
    have := (d.ids a ha).2.1
    show a.id < la
    omega
  · rcases List.mem_append.1 hr with h | h
    · have := d.ids r h; omega
    · obtain rfl := List.mem_singleton.1 h
      exact ⟨by show 1 ≤ la; omega, Nat.le_refl _, hd⟩
  · exact ((f6.mono fun k _ e => .inl e).trans' (f7.mono fun k _ e => .inr e)).trans' (f8.mono fun k _ e => .inl e)
set_option maxHeartbeats 4000000 in
theorem dAdd_ok (d : DT B w p most last v l) (hB : B ≤ w.heap.size) (hl : l.length < most) (hL : last < 1000000) (x : ByteArray) (due : Nat) (hd : due ≤ 1099511627776) :
    Calls Try.prog 8 #[.pointer (some ⟨p, 0, none⟩), .string x, .int .u64 (due : Int)] w fun e w' => e = .returned (.tuple #[.int .u64 ((last + 1 : Nat) : Int), .int .i64 0]) ∧
      ∃ v', DT B w' p most (last + 1) v' (l ++ [⟨last + 1, due, x⟩]) ∧ Fr (fun k => k = p ∨ v.ownBlock = some k) w w' ∧ ∀ k, v'.ownBlock = some k → v.ownBlock = some k ∨ w.heap.size ≤ k := by
  have H1 := Lib.hid (fun W (f : Fr F0 w W) => dLen_any (d.fr0 f))
  have e0 := d.at_
  have HD := Lib.hid d
  have l1 : ¬ (1099511627776 : Int) < (due : Int) := by omega
  have d1 : decide ((1099511627776 : Int) < (due : Int)) = false := decide_eq_false l1
  have l2 : ¬ (most : Int) ≤ (l.length : Int) := by omega
  have l3 : ¬ most ≤ l.length := by omega
  have k1 : IntKind.u64.wrap ((last : Int) + 1) = ((last + 1 : Nat) : Int) := by rw [IntWalk.u64_in _ (by omega)]; omega
  have HL := Lib.hid (And.intro hl (And.intro hL (And.intro hd hB)))
  obtain ⟨n, hn⟩ : ∃ n, l.length = n := ⟨_, rfl⟩
  rw [hn] at H1 l2 l3
  replace hn := Lib.hid hn
  clear hl hL hd d hB
  obtain ⟨la, hla⟩ : ∃ la, last + 1 = la := ⟨_, rfl⟩
  rw [hla] at k1 ⊢
  replace hla := Lib.hid hla
  go_enter Try.func8, Try.ntmps8
  go_wp2_with fail
  refine rbegin (S := (fun w' => w'.heap[p]? = some (.cells #[.int .i64 (most : Int), .int .u64 (last : Int), v] 63 (0, 0)) ∧ Fr F0 w w')) ?_ fun hHeld => ?_
  · ((try dsimp only) <;> (exact ⟨e0, (Fr.refl F0 w).drew⟩))
  refine rtake 0 ?_
  refine rtake 2 ?_
  refine rtake 3 ?_
  refine rtake 4 ?_
  refine rtake 5 ?_
  refine rone 1 fun K hK => ?_
  go_simp
  ((with_reducible refine (H1.out _ hHeld.2).mono ?_); rintro e w5 ⟨rfl, hw⟩; replace hw := hw.symm; subst hw)
  refine hK.out _ _ ?_ (fun hHeld => ?_)
  · ((try dsimp only) <;> (exact hHeld))
  clear hK K
  try (simp only [Act.put, aST]; dsimp only [aS0, aS1])
  refine rtake 6 ?_
  refine rdone ?_
  go_upto_region 6 with fail
  obtain ⟨W6, hW6⟩ : ∃ W, W = (w.setCell ⟨p, 1, none⟩ (.int .u64 (la : Int))).drew := ⟨_, rfl⟩
  rw [← hW6]
  have e6 : W6.heap[p]? = some (.cells #[.int .i64 (most : Int), .int .u64 (la : Int), v] 63 (0, 0)) := by
    rw [hW6]
    show (w.setCell ⟨p, 1, none⟩ (.int .u64 (la : Int))).heap[p]? = _
    rw [heap_setCell_at, e0]
    rfl
  have f6 : Fr (fun k => k = p) w W6 := by
    rw [hW6]
    exact ((Fr.refl (fun k => k = p) w).setCell (p := ⟨p, 1, none⟩) (fun _ => rfl) _).drew
  clear hW6 hHeld
  have o6 : OwnD B W6.drew v l := (HD.out.own.frS f6 fun k hk e => HD.out.apart (by rw [hk]; exact congrArg some e)).fr0 (Fr.refl F0 W6).drew
  obtain ⟨a7, cp7, w7, happ, o7, f7, s7, b7⟩ := OwnD.app o6 ⟨la, due, x⟩ (Nat.le_trans HL.out.2.2.2 f6.size) (by have := HD.out.l256; omega) 61
  have hp7 : w7.heap[p]? = some (.cells #[.int .i64 (most : Int), .int .u64 (la : Int), v] 63 (0, 0)) := f7.keeps (fun e => HD.out.apart e) e6
  rw [hn.out] at happ
  have HO := Lib.hid (And.intro o7 (And.intro (f6.trans' (Fr.refl (fun k => k = p) W6).drew) (And.intro f7 b7)))
  rw [hn.out] at HO
  obtain ⟨n1, hn1⟩ : ∃ n1, n + 1 = n1 := ⟨_, rfl⟩
  rw [hn1] at happ HO
  replace hn1 := Lib.hid hn1
  have c6 : Obj.cellAt 1 W6.heap[p]? = some (.int .u64 (la : Int)) := by rw [e6]; rfl
  have c7 : Obj.cellAt 1 w7.heap[p]? = some (.int .u64 (la : Int)) := by rw [hp7]; rfl
  replace happ : (appDs 61 #[v, .slice (some ⟨W6.heap.size, 0, none⟩) 1 1]).run Try.prog (W6.alloc (.cells #[.int .u64 (la : Int), .int .u64 (due : Int), .string x] 65)).drew = .ok (.slice a7 n1 cp7) w7 := happ
  have e6a : (W6.alloc (.cells #[.int .u64 (la : Int), .int .u64 (due : Int), .string x] 65)).heap[p]? = some (.cells #[.int .i64 (most : Int), .int .u64 (la : Int), v] 63 (0, 0)) := keep_alloc e6
  clear o6 o7 f6 f7 b7
  refine rbegin (S := (fun w' => Obj.cellAt 1 w'.heap[p]? = some (.int .u64 (la : Int)))) ?_ fun hHeld => ?_
  · ((try dsimp only) <;> (exact c6))
  refine rtake 0 ?_
  refine rtake 1 ?_
  refine rtake 2 ?_
  refine rtake 3 ?_
  refine rtake 5 ?_
  refine rtake 6 ?_
  refine rtake 7 ?_
  refine rtake 8 ?_
  refine rtake 9 ?_
  refine rtake 10 ?_
  refine rtake 11 ?_
  refine wpAnyH_ready (rs := [4, 12]) (by kernel_rfl) (by simp) ?_
  refine AllReadyH.cons (o := ⟨_, _, _, _, _, _⟩) rfl (fun K hK => ?_) (AllReadyH.cons (o := ⟨_, _, _, _, _, _⟩) rfl (fun K hK => ?_) AllReadyH.nil)
  go_simp
  refine hK.out _ _ ?_ (fun hHeld => ?_)
  · ((try dsimp only) <;> (first | exact hHeld | exact c7 | (show Obj.cellAt 1 (W6.alloc _).heap[p]? = _; rw [keep_alloc e6]; rfl) | (rw [heap_setCell_at, hp7]; rfl)))
  clear hK K
  try (simp only [Act.put, aST]; dsimp only [aS0, aS1])
  refine rone 12 fun K hK => ?_
  go_simp
  refine hK.out _ _ ?_ (fun hHeld => ?_)
  · ((try dsimp only) <;> (first | exact hHeld | exact c7 | (show Obj.cellAt 1 (W6.alloc _).heap[p]? = _; rw [keep_alloc e6]; rfl) | (rw [heap_setCell_at, hp7]; rfl)))
  clear hK K
  try (simp only [Act.put, aST]; dsimp only [aS0, aS1])
  refine rone 13 fun K hK => ?_
  go_simp
  refine hK.out _ _ ?_ (fun hHeld => ?_)
  · ((try dsimp only) <;> (first | exact hHeld | exact c7 | (show Obj.cellAt 1 (W6.alloc _).heap[p]? = _; rw [keep_alloc e6]; rfl) | (rw [heap_setCell_at, hp7]; rfl)))
  clear hK K
  try (simp only [Act.put, aST]; dsimp only [aS0, aS1])
  refine rtake 14 ?_
  refine rtake 15 ?_
  refine rone 16 fun K hK => ?_
  go_simp
  refine hK.out _ _ ?_ (fun hHeld => ?_)
  · ((try dsimp only) <;> (first | exact hHeld | exact c7 | (show Obj.cellAt 1 (W6.alloc _).heap[p]? = _; rw [keep_alloc e6]; rfl) | (rw [heap_setCell_at, hp7]; rfl)))
  clear hK K
  try (simp only [Act.put, aST]; dsimp only [aS0, aS1])
  refine rdone ?_
  rotate_left
  go_simp
  refine hK.out _ _ ?_ (fun hHeld => ?_)
  · ((try dsimp only) <;> (first | exact hHeld | exact c7 | (show Obj.cellAt 1 (W6.alloc _).heap[p]? = _; rw [keep_alloc e6]; rfl) | (rw [heap_setCell_at, hp7]; rfl)))
  clear hK K
  try (simp only [Act.put, aST]; dsimp only [aS0, aS1])
  refine rone 4 fun K hK => ?_
  go_simp
  refine hK.out _ _ ?_ (fun hHeld => ?_)
  · ((try dsimp only) <;> (first | exact hHeld | exact c7 | (show Obj.cellAt 1 (W6.alloc _).heap[p]? = _; rw [keep_alloc e6]; rfl) | (rw [heap_setCell_at, hp7]; rfl)))
  clear hK K
  try (simp only [Act.put, aST]; dsimp only [aS0, aS1])
  refine rone 13 fun K hK => ?_
  go_simp
  refine hK.out _ _ ?_ (fun hHeld => ?_)
  · ((try dsimp only) <;> (first | exact hHeld | exact c7 | (show Obj.cellAt 1 (W6.alloc _).heap[p]? = _; rw [keep_alloc e6]; rfl) | (rw [heap_setCell_at, hp7]; rfl)))
  clear hK K
  try (simp only [Act.put, aST]; dsimp only [aS0, aS1])
  refine rtake 14 ?_
  refine rtake 15 ?_
  refine rone 16 fun K hK => ?_
  go_simp
  refine hK.out _ _ ?_ (fun hHeld => ?_)
  · ((try dsimp only) <;> (first | exact hHeld | exact c7 | (show Obj.cellAt 1 (W6.alloc _).heap[p]? = _; rw [keep_alloc e6]; rfl) | (rw [heap_setCell_at, hp7]; rfl)))
  clear hK K
  try (simp only [Act.put, aST]; dsimp only [aS0, aS1])
  refine rdone ?_
  rotate_left
  all_goals
    clear hHeld happ e6a c6 c7
    obtain ⟨W8, hW8⟩ : ∃ W, W = w7.setCell ⟨p, 2, none⟩ (.slice a7 n1 cp7) := ⟨_, rfl⟩
    try rw [← hW8]
    have e8 : W8.heap[p]? = some (.cells #[.int .i64 (most : Int), .int .u64 (la : Int), .slice a7 n1 cp7] 63 (0, 0)) := by
      rw [hW8, heap_setCell_at, hp7]
      rfl
    have f8 : Fr (fun k => k = p) w7 W8 := by
      rw [hW8]
      exact (Fr.refl (fun k => k = p) w7).setCell (p := ⟨p, 2, none⟩) (fun _ => rfl) _
    replace f8 := Lib.hid f8
    clear hW8
    go_wp2_with fail
    go_ret2
    exact ⟨rfl, _, HD.out.add (by have := hn.out; have := HL.out.1; omega) HL.out.2.2.1 hla.out HO.out.2.1 HO.out.2.2.1 HO.out.1 HO.out.2.2.2 e8 f8.out⟩
set_option maxHeartbeats 4000000 in
theorem dAdd_full (d : DT B w p most last v l) (hl : l.length = most) (x : ByteArray) (due : Nat) (hd : due ≤ 1099511627776) :
    Calls Try.prog 8 #[.pointer (some ⟨p, 0, none⟩), .string x, .int .u64 (due : Int)] w fun e w' => e = .returned (.tuple #[.int .u64 0, .int .i64 10]) ∧ Fr F0 w w' := by
  have H1 := Lib.hid (fun W (f : Fr F0 w W) => dLen_any (d.fr0 f))
  have e0 := d.at_
  have l1 : ¬ (1099511627776 : Int) < (due : Int) := by omega
  have d1 : decide ((1099511627776 : Int) < (due : Int)) = false := decide_eq_false l1
  rw [hl] at H1
  clear hl hd d
  go_enter Try.func8, Try.ntmps8
  go_wp2_with fail
  refine rbegin (S := (fun w' => w'.heap[p]? = some (.cells #[.int .i64 (most : Int), .int .u64 (last : Int), v] 63 (0, 0)) ∧ Fr F0 w w')) ?_ fun hHeld => ?_
  · ((try dsimp only) <;> (exact ⟨e0, (Fr.refl F0 w).drew⟩))
  refine rtake 0 ?_
  refine rtake 2 ?_
  refine rtake 3 ?_
  refine rtake 4 ?_
  refine rtake 5 ?_
  refine rone 1 fun K hK => ?_
  go_simp
  ((with_reducible refine (H1.out _ hHeld.2).mono ?_); rintro e w5 ⟨rfl, hw⟩; replace hw := hw.symm; subst hw)
  refine hK.out _ _ ?_ (fun hHeld => ?_)
  · ((try dsimp only) <;> (exact hHeld))
  clear hK K
  try (simp only [Act.put, aST]; dsimp only [aS0, aS1])
  refine rtake 6 ?_
  refine rdone ?_
  go_wp2_with fail
  go_ret2
  exact ⟨rfl, (Fr.refl F0 w).drew⟩
end
set_option maxHeartbeats 4000000 in
theorem dAdd_arg {B : Nat} {w : World} {p most last : Nat} {v : Value} {l : List Ro} (d : DT B w p most last v l) (x : ByteArray) (due : Nat) (hd : 1099511627776 < due) :
    Calls Try.prog 8 #[.pointer (some ⟨p, 0, none⟩), .string x, .int .u64 (due : Int)] w fun e w' => e = .returned (.tuple #[.int .u64 0, .int .i64 1]) ∧ w' = w := by
  have l1 : (1099511627776 : Int) < (due : Int) := by omega
  have d1 : decide ((1099511627776 : Int) < (due : Int)) = true := decide_eq_true l1
  clear hd d
  go_enter Try.func8, Try.ntmps8
  go_wp2_with fail
  go_ret2
  exact ⟨rfl, rfl⟩
set_option maxHeartbeats 4000000 in
theorem dAdd_nil (x : ByteArray) (due : Nat) (w : World) : Calls Try.prog 8 #[.pointer none, .string x, .int .u64 (due : Int)] w fun e w' => e = .returned (.tuple #[.int .u64 0, .int .i64 1]) ∧ w' = w := by
  go_enter Try.func8, Try.ntmps8
  go_wp2_with fail
  go_ret2
  exact ⟨rfl, rfl⟩
end Go.Proofs.Ytkekdbnmeobgiaa

/- Layer 18 (due): slices.Clone and Delete of rows; Copy, Drop. -/
namespace Go.Proofs.Ytkekdbnmeobgiaa
set_option maxRecDepth 100000
set_option linter.unusedVariables false
set_option linter.unusedSimpArgs false
open Go.RowKit

def clearDs (ty : TypeId) (args : Array Value) : Sem Value := Builtin.clear_ #[61] ty args
@[go_sem ↓ high] theorem clear_Ds (ty : TypeId) (args : Array Value) : Builtin.clear_ #[61] ty args = clearDs ty args := rfl
theorem putMid_take (o : Nat) : ∀ (vs : List Value) (cs : Array Value) (k : Nat), o ≤ k → (putMid cs k vs).toList.take o = cs.toList.take o
  | [], _, _, _ => rfl
  | v :: r, cs, k, h => by
    rw [putMid, putMid_take o r _ (k + 1) (by omega), Array.toList_setIfInBounds, set_take, List.set_eq_of_length_le (by rw [List.length_take]; omega)]
theorem run_clearD (w : World) (g o n c : Nat) (cs : Array Value) (t : TypeId) (hg : w.heap[g]? = some (.cells cs t (0, 0))) (hn : 0 < n) (hfit : o + n * 3 ≤ cs.size) :
    ∃ cs', (∀ ty, (clearDs ty #[.slice (some ⟨g, o, none⟩) n c]).run Try.prog w = .ok (.tuple #[]) (w.setRow g cs')) ∧ cs'.size = cs.size ∧ cs'.toList.take o = cs.toList.take o := by
  obtain ⟨z, hz⟩ : ∃ z, z = (Builtin.zeroCells #[.int .u64 0, .int .u64 0, .string ⟨#[]⟩] n).toList := ⟨_, rfl⟩
  have hlen : z.length = n * 3 := by rw [hz]; simp [Builtin.zeroCells]
  have h1 : ∀ v ∈ z, v.oneCell' = true := by
    intro v hv
    rw [hz] at hv
    simp only [Builtin.zeroCells, Array.toList_map, List.mem_map] at hv
    obtain ⟨i, _, rfl⟩ := hv
    have : i % 3 < 3 := Nat.mod_lt _ (by decide)
    show (#[Value.int .u64 0, .int .u64 0, .string ⟨#[]⟩][i % 3]!).oneCell' = true
    match i % 3, this with
    | 0, _ => rfl
    | 1, _ => rfl
    | 2, _ => rfl
  have hst := run_storeCells_cells (P := Try.prog) g o z 0 w (fun j hj => by rw [cell_at, hg, cellAt_cells, Array.getElem?_eq_getElem (by omega)]; rfl) (fun j hj => by rw [frozen_at, hg]; rfl) h1
  rw [Nat.add_zero] at hst
  refine ⟨putMid cs o z, fun ty => ?_, putMid_size _ _ _, putMid_take o z cs o (Nat.le_refl _)⟩
  rw [← setCells_row g z o w cs t (0, 0) (fun e => by rw [e] at hlen; simp at hlen; omega) hg]
  obtain ⟨m, rfl⟩ : ∃ m, n = m + 1 := ⟨n - 1, by omega⟩
  have hzv : ∀ w, (zeroValue 65).run Try.prog w = .ok (.agg #[.int .u64 0, .int .u64 0, .string ⟨#[]⟩]) w := Try.zeroValue65
  show (Builtin.clear_ #[61] ty #[.slice (some ⟨g, o, none⟩) (m + 1) c]).run Try.prog w = _
  simp [Builtin.clear_, run_underlying Try.underlying61, hzv, Value.cells, ← hz, hst]

set_option maxHeartbeats 4000000 in
theorem dClone_any {B : Nat} {w : World} {v : Value} {l : List Ro} (h : OwnD B w v l) (hl : l.length ≤ 100000) : Calls Try.prog 23 #[v] w fun e w' => ∃ a' n' c', e = .returned (.slice a' n' c') ∧ OwnD w.heap.size w' (.slice a' n' c') l ∧ Fr F0 w w' := by
  rcases h.row with ⟨rfl, rfl⟩ | ⟨g, c, rfl, -, -, -, -, -⟩
  · go_enter Try.func23, Try.ntmps23
    go_wp2_with fail
    go_ret
    exact ⟨_, _, _, rfl, OwnE.nil _ _, Fr.refl _ _⟩
  · obtain ⟨i0, hi, hz, hs, hb⟩ := info_parts Try.infoDRow
    obtain ⟨a, cc, e, hsl⟩ := h.is
    cases e
    have f1 : Fr F0 w (w.alloc (.cells #[] 65)) := (Fr.refl F0 w).alloc _
    obtain ⟨v', w', hrun, hown, hg, hnw⟩ := run_app (P := Try.prog) (w := w.alloc (.cells #[] 65)) 61 61 65 i0 _ 3 32 Try.underlying61 hi hz hs hb rfl (by decide) (.slice (some ⟨w.heap.size, 0, none⟩) 0 0) 0 []
      (World.ownsRow_made (base := 0) w #[] 0 (Nat.zero_le _) (Nat.zero_le _) rfl) (some ⟨g, 0, none⟩) c l.length _ (hsl.fr f1 fun _ _ x => x) (fun u hu => by
        simp only [List.mem_flatMap] at hu
        obtain ⟨r, _, hr⟩ := hu
        exact encR_one r u hr) (by unfold maxLen; omega) (by omega)
    obtain ⟨a', c', rfl⟩ := own_slice hown
    have H := Lib.hid (show OwnD w.heap.size w' (.slice a' (0 + l.length) c') l ∧ Fr F0 w w' from ⟨⟨by simpa using hown, fun k hk => by
      rcases hnw k hk with e | e
      · cases e; exact Nat.le_refl _
      · simp at e; omega⟩, f1.grown hg fun k hk hl => by cases hk; exact absurd hl (Nat.lt_irrefl _)⟩)
    replace hrun : (appDs 61 #[.slice (some ⟨w.heap.size, 0, none⟩) 0 0, .slice (some ⟨g, 0, none⟩) l.length c]).run Try.prog (w.alloc (.cells #[] 65)) = .ok (.slice a' (0 + l.length) c') w' := hrun
    generalize 0 + l.length = n' at *
    clear hown hg hnw hsl hi hz hs hb h f1
    go_enter Try.func23, Try.ntmps23
    go_wp2_with fail
    go_ret
    exact ⟨_, _, _, rfl, H.out⟩
section
variable {B : Nat} {w : World} {p most last : Nat} {v : Value} {l : List Ro}
set_option maxHeartbeats 4000000 in
theorem dCopy_any (d : DT B w p most last v l) : Calls Try.prog 16 #[.pointer (some ⟨p, 0, none⟩)] w fun e w' => ∃ q v', e = .returned (.pointer (some ⟨q, 0, none⟩)) ∧ DT w.heap.size w' q most last v' l ∧ Fr F0 w w' := by
  have H1 := Lib.hid (fun W (f : Fr F0 w W) => dClone_any (d.own.fr0 f) (Nat.le_trans d.l256 (by decide)))
  have HD := Lib.hid d
  have e0 := d.at_
  clear d
  go_enter Try.func16, Try.ntmps16
  go_wp2_with fail
  refine rbegin (S := (fun w' => w'.heap[p]? = some (.cells #[.int .i64 (most : Int), .int .u64 (last : Int), v] 63 (0, 0)) ∧ Fr F0 w w')) ?_ fun hHeld => ?_
  · ((try dsimp only) <;> (exact ⟨e0, (Fr.refl F0 w).drew⟩))
  refine rtake 0 ?_
  refine rtake 1 ?_
  refine rtake 2 ?_
  refine rtake 3 ?_
  refine rtake 4 ?_
  refine rtake 5 ?_
  refine rtake 6 ?_
  refine rtake 7 ?_
  refine rtake 8 ?_
  refine rtake 9 ?_
  refine rtake 10 ?_
  refine rtake 11 ?_
  refine rone 12 fun K hK => ?_
  go_simp
  (refine (H1.out _ hHeld.2).mono ?_; rintro e w5 ⟨a', n', c', rfl, o5, f5⟩; have HL := Lib.hid o5; clear o5)
  refine hK.out _ _ ?_ (fun hHeld => ?_)
  · ((try dsimp only) <;> (first | exact hHeld | exact ⟨keep_fr f5 hHeld.1, hHeld.2.trans' f5⟩))
  clear hK K
  try (simp only [Act.put, aST]; dsimp only [aS0, aS1])
  refine rtake 13 ?_
  refine rone 14 fun K hK => ?_
  go_simp
  refine hK.out _ _ ?_ (fun hHeld => ?_)
  · ((try dsimp only) <;> (first | exact hHeld | exact ⟨keep_alloc hHeld.1, hHeld.2.alloc _⟩))
  clear hK K
  try (simp only [Act.put, aST]; dsimp only [aS0, aS1])
  refine rtake 15 ?_
  refine rdone ?_
  all_goals
    go_wp2_with fail
    go_ret
    have o5 : OwnD w.heap.size w5 (.slice a' n' c') l := HL.out
    have f6 : Fr F0 w5 (w5.alloc (.cells #[.int .i64 (most : Int), .int .u64 (last : Int), .slice a' n' c'] 63)) := (Fr.refl F0 w5).alloc _
    exact ⟨w5.heap.size, _, rfl, ⟨heap_alloc_new _ _, o5.fr0 f6, fun e => absurd (o5.lt _ e) (Nat.lt_irrefl _), f5.size, HD.out.most1, HD.out.len, HD.out.asc, HD.out.ids⟩, hHeld.2⟩
set_option maxHeartbeats 4000000 in
theorem dCopy_nil (w : World) : Calls Try.prog 16 #[.pointer none] w fun e w' => e = .returned (.pointer none) ∧ w' = w := by
  go_enter Try.func16, Try.ntmps16
  go_wp2_with fail
  go_ret
  exact ⟨rfl, rfl⟩
end

theorem flat_take (l : List Ro) (i : Nat) : (l.flatMap encR).take (i * 3) = (l.take i).flatMap encR := by
  induction l generalizing i with
  | nil => simp
  | cons r l ih =>
    cases i with
    | zero => simp
    | succ i =>
      rw [List.flatMap_cons, List.take_succ_cons, List.flatMap_cons, show (i + 1) * 3 = (encR r).length + i * 3 by rw [encR_len]; omega, List.take_length_add_append, ih]
theorem flat_drop (l : List Ro) (i : Nat) : (l.flatMap encR).drop (i * 3) = (l.drop i).flatMap encR := by
  induction l generalizing i with
  | nil => simp
  | cons r l ih =>
    cases i with
    | zero => simp
    | succ i =>
      rw [List.flatMap_cons, List.drop_succ_cons, show (i + 1) * 3 = (encR r).length + i * 3 by rw [encR_len]; omega, List.drop_length_add_append, ih]
/-- One row goes: what lies behind it moves down. -/
theorem del_app {B : Nat} {w : World} {g n c i : Nat} {l : List Ro} (h : OwnD B w (.slice (some ⟨g, 0, none⟩) n c) l) (hi : i < n) (hl : n ≤ 100000) (ty c2 o : Nat) (ho : o = (i + 1) * 3 ∨ n = i + 1) :
    ∃ w', (appDs ty #[.slice (some ⟨g, 0, none⟩) i c, .slice (some ⟨g, o, none⟩) (n - (i + 1)) c2]).run Try.prog w = .ok (.slice (some ⟨g, 0, none⟩) (n - 1) c) w' ∧ OwnD B w' (.slice (some ⟨g, 0, none⟩) (n - 1) c) (l.eraseIdx i) ∧ Fr (fun k => k = g) w w' ∧
      ∃ cur, w'.heap[g]? = some (.cells cur 65 (0, 0)) ∧ cur.size = c * 3 ∧ n ≤ c := by
  obtain ⟨g', cc, hv, hB, hlt, hlc, hcm, cur, hg, hs, ht⟩ := (OwnD.row h).resolve_left (fun e => by cases e.1)
  cases hv
  obtain ⟨i0, hinfo, hz, hsz, hb⟩ := info_parts Try.infoDRow
  have hfl := flat_lenE encR_len l
  have hnl : ((l.drop (i + 1)).flatMap encR).length = (l.length - (i + 1)) * 3 := by rw [flat_lenE encR_len, List.length_drop]
  have hr := run_append_room (P := Try.prog) w 61 ty 65 i0 Try.underlying61 hinfo g i c cur hg ⟨g, o, none⟩ (l.length - (i + 1)) c2 ((l.drop (i + 1)).flatMap encR) (by rw [hsz]; exact hnl)
    (fun j u hj => by
      have hj' : j < (l.length - (i + 1)) * 3 := by have := (List.getElem?_eq_some_iff.1 hj).1; rw [hnl] at this; exact this
      obtain rfl : o = (i + 1) * 3 := ho.resolve_right (by omega)
      rw [← flat_drop, List.getElem?_drop] at hj
      have := h.own.cells (g := g) rfl _ u hj
      rw [Addr.add_lit] at this
      rw [Addr.add_lit, ← this, Nat.zero_add])
    (fun u hu => by
      simp only [List.mem_flatMap] at hu
      obtain ⟨r, _, hr⟩ := hu
      exact encR_one r u hr) (by omega) (by rw [hnl, hsz, hs]; omega)
  rw [hsz, hnl] at hr
  obtain ⟨cur', hc'⟩ : ∃ x, (cur.toList.take (i * 3) ++ (l.drop (i + 1)).flatMap encR ++ cur.toList.drop (i * 3 + (l.length - (i + 1)) * 3)).toArray = x := ⟨_, rfl⟩
  rw [hc', show i + (l.length - (i + 1)) = l.length - 1 by omega] at hr
  have hcs : cur'.size = c * 3 := by
    rw [← hc']
    simp only [List.size_toArray, List.length_append, List.length_take, List.length_drop, Array.length_toList, hnl, hs]
    omega
  have hg' : (w.setRow g cur').heap[g]? = some (.cells cur' 65 (0, 0)) := new_row hg
  have hle : (l.eraseIdx i).length = l.length - 1 := List.length_eraseIdx_of_lt hi
  refine ⟨_, hr, ?_, (Fr.refl (fun k => k = g) w).setRow (fun _ => rfl) _, cur', hg', hcs, hlc⟩
  have := OwnD.of_row (l := l.eraseIdx i) hg' hB (by omega) hcm hcs (by
    rw [← hc', hle]
    have e1 : cur.toList.take (i * 3) = (l.take i).flatMap encR := by
      rw [← flat_take l i, ← ht, List.take_take, show min (i * 3) (l.length * 3) = i * 3 by omega]
    rw [e1]
    rw [List.toList_toArray, List.take_append_of_le_length (by rw [List.length_append, hnl, flat_lenE encR_len, List.length_take]; omega), List.take_of_length_le (by rw [List.length_append, hnl, flat_lenE encR_len, List.length_take]; omega), ← List.flatMap_append, ← List.eraseIdx_eq_take_drop_succ])
  rw [hle] at this
  exact this
/-- The rows behind the last one are cleared. -/
theorem del_done {B : Nat} {w w' : World} {g m c : Nat} {l : List Ro} {cur cs' : Array Value} (h : OwnD B w' (.slice (some ⟨g, 0, none⟩) m c) l ∧ Fr (fun k => k = g) w.drew w' ∧ w'.heap[g]? = some (.cells cur 65 (0, 0)) ∧ cur.size = c * 3 ∧ cs'.size = cur.size ∧ cs'.toList.take (m * 3) = cur.toList.take (m * 3)) :
    OwnD B (w'.setRow g cs') (.slice (some ⟨g, 0, none⟩) m c) l ∧ Fr (fun k => k = g) w (w'.setRow g cs') := by
  obtain ⟨h1, h2, h3, h4, h5, h6⟩ := h
  obtain ⟨g', cc, hv, hB, hlt, hlc, hcm, cur', hg, hs, ht⟩ := (OwnD.row h1).resolve_left (fun e => by cases e.1)
  cases hv
  rw [h3] at hg
  cases hg
  refine ⟨OwnD.of_row (new_row h3) hB hlc hcm (by omega) (by rw [h6]; exact ht), ?_⟩
  exact ((Fr.refl (fun k => k = g) w).drew.trans' h2).setRow (fun _ => rfl) _
set_option maxHeartbeats 8000000 in
theorem dDelete_any {B : Nat} {w : World} {g n c i : Nat} {l : List Ro} (h : OwnD B w (.slice (some ⟨g, 0, none⟩) n c) l) (hi : i < n) (hl : n ≤ 100000) :
    Calls Try.prog 33 #[.slice (some ⟨g, 0, none⟩) n c, .int .i64 (i : Int), .int .i64 ((i + 1 : Nat) : Int)] w fun e w' => e = .returned (.slice (some ⟨g, 0, none⟩) (n - 1) c) ∧ OwnD B w' (.slice (some ⟨g, 0, none⟩) (n - 1) c) (l.eraseIdx i) ∧ Fr (fun k => k = g) w w' := by
  obtain ⟨i1, hi1⟩ : ∃ i1, i + 1 = i1 := ⟨_, rfl⟩
  rw [hi1]
  have hlc : n ≤ c := by
    obtain ⟨g', cc, hv, hB, hlt, hlc, hcm, cur, hg, hs, ht⟩ := (OwnD.row h).resolve_left (fun e => by cases e.1)
    cases hv
    exact hlc
  obtain ⟨o, ho0⟩ : ∃ o, o = if c = i1 then 0 else i1 * 3 := ⟨_, rfl⟩
  have D := del_app (h.fr0 (Fr.refl F0 w).drew) hi hl 61 (c - i1) o (by
    rw [ho0]
    by_cases hc : c = i1
    · exact .inr (by omega)
    · rw [if_neg hc, hi1]; exact .inl rfl)
  rw [hi1] at D
  obtain ⟨w', happ, ho, f1, cur, hcur, hcs, hnc⟩ := D
  have wq : IntKind.i64.wrap ((i : Int) + 1) = (i1 : Int) := by rw [IntWalk.i64_in _ (by omega)]; omega
  have HI := Lib.hid hi1
  have hii : i < i1 := by omega
  have hin : i1 ≤ n := by omega
  obtain ⟨m, hm⟩ : ∃ m, n - 1 = m := ⟨_, rfl⟩
  rw [hm] at happ ho ⊢
  have hmn : m + 1 = n := by omega
  obtain ⟨cs', hcl, hs', ht'⟩ := run_clearD w' g (m * 3) (n - m) (c - m) cur _ hcur (by omega) (by omega)
  have HO := Lib.hid (And.intro ho (And.intro f1 (And.intro hcur (And.intro hcs (And.intro hs' ht')))))
  clear h ho f1 hcur hcs hs' ht' hm hi1
  go_enter Try.func33, Try.ntmps33
  go_wp2_with fail
  have hic : i ≤ c := by omega
  have hi1c : i1 ≤ c := by omega
  have hmc : m ≤ c := by omega
  have hii1 : i ≤ i1 := by omega
  by_cases hc : c = i1
  case pos =>
    obtain rfl : o = 0 := by rw [ho0, if_pos hc]
    clear ho0
    subst hc
    rw [Nat.sub_self, show n - c = 0 by omega] at happ
    refine rbegin (S := (fun _ => True)) ?_ fun hHeld => ?_
    · ((try dsimp only) <;> (trivial))
    refine rtake 0 ?_
    refine rtake 1 ?_
    refine rtake 2 ?_
    refine rtake 3 ?_
    refine rtake 4 ?_
    refine rtake 5 ?_
    refine rone 6 fun K hK => ?_
    go_simp
    refine hK.out _ _ ?_ (fun hHeld => ?_)
    · ((try dsimp only) <;> (trivial))
    clear hK K
    try (simp only [Act.put, aST]; dsimp only [aS0, aS1])
    refine rtake 7 ?_
    refine rdone ?_
    go_wp2_with fail
    go_ret
    exact ⟨rfl, del_done HO.out⟩
  case neg =>
    obtain rfl : o = i1 * 3 := by rw [ho0, if_neg hc]
    clear ho0
    refine rbegin (S := (fun _ => True)) ?_ fun hHeld => ?_
    · ((try dsimp only) <;> (trivial))
    refine rtake 0 ?_
    refine rtake 1 ?_
    refine rtake 2 ?_
    refine rtake 3 ?_
    refine rtake 4 ?_
    refine rtake 5 ?_
    refine rone 6 fun K hK => ?_
    go_simp
    refine hK.out _ _ ?_ (fun hHeld => ?_)
    · ((try dsimp only) <;> (trivial))
    clear hK K
    try (simp only [Act.put, aST]; dsimp only [aS0, aS1])
    refine rtake 7 ?_
    refine rdone ?_
    go_wp2_with fail
    go_ret
    exact ⟨rfl, del_done HO.out⟩
section
variable {B : Nat} {w : World} {p most last : Nat} {v : Value} {l : List Ro}
theorem pw_erase {l : List Ro} (h : l.Pairwise fun a b => a.id < b.id) (i : Nat) : (l.eraseIdx i).Pairwise fun a b => a.id < b.id := h.sublist (List.eraseIdx_sublist l i)
set_option maxHeartbeats 4000000 in
theorem dDrop_yes (d : DT B w p most last v l) {id i : Nat} {r : Ro} (h : AtR l id i r) : Calls Try.prog 12 #[.pointer (some ⟨p, 0, none⟩), .int .u64 (id : Int)] w fun e w' => e = .returned (.int .i64 0) ∧ ∃ v', DT B w' p most last v' (l.eraseIdx i) ∧ Fr (fun k => k = p ∨ v.ownBlock = some k) w w' ∧ v'.ownBlock = v.ownBlock := by
  have H1 := Lib.hid (dfind_yes d h)
  obtain ⟨g, c, rfl⟩ := d.row h
  have HD := Lib.hid d
  have HA := Lib.hid h
  have hi := h.some
  have hl := d.l256
  clear d h
  obtain ⟨n, hn⟩ : ∃ n, l.length = n := ⟨_, rfl⟩
  rw [hn] at hi hl HD ⊢
  replace hn := Lib.hid hn
  have k1 : IntKind.i64.wrap ((i : Int) + 1) = ((i + 1 : Nat) : Int) := by rw [IntWalk.i64_in _ (by omega)]; omega
  have HDel := Lib.hid (fun W (f : Fr F0 w W) => dDelete_any (HD.out.own.fr0 f) hi (by omega))
  obtain ⟨i1, hi1⟩ : ∃ i1, i + 1 = i1 := ⟨_, rfl⟩
  rw [hi1] at k1 HDel
  clear hi1
  go_enter Try.func12, Try.ntmps12
  go_wp2_with fail
  (with_reducible refine H1.out.mono ?_); rintro e w1 ⟨rfl, f1⟩
  have d1 := HD.out.fr0 f1
  have e0 := d1.at_
  have HDl := Lib.hid (HDel.out w1 f1)
  have F1 := Lib.hid (And.intro d1 f1)
  clear d1 f1 H1 HDel
  go_wp2_with fail
  (with_reducible refine HDl.out.mono ?_); rintro e w2 ⟨rfl, o2, f2⟩
  have hgp : g ≠ p := fun e => HD.out.apart (by rw [e]; rfl)
  have e2 := f2.keeps (fun e => hgp e.symm) F1.out.1.at_
  have H2 := Lib.hid (And.intro o2 f2)
  clear o2 f2 HDl e0
  replace hgp := Lib.hid hgp
  go_wp2_with fail
  go_ret
  have f3 : Fr (fun k => k = p) w2 (w2.setCell ⟨p, 2, none⟩ (.slice (some ⟨g, 0, none⟩) (n - 1) c)) := (Fr.refl (fun k => k = p) w2).setCell (p := ⟨p, 2, none⟩) (fun _ => rfl) _
  refine ⟨rfl, _, ⟨?_, H2.out.1.frS f3 (fun k hk e => ?_), HD.out.apart, HD.out.base, HD.out.most1, ?_, pw_erase HD.out.asc i, fun r hr => HD.out.ids r (List.mem_of_mem_eraseIdx hr)⟩, ?_, rfl⟩
  · rw [heap_setCell_at, e2]; rfl
  · cases hk; exact hgp.out e
  · have := HD.out.len
    have := List.length_eraseIdx_le l i
    omega
  · exact ((F1.out.2.of0).trans' (H2.out.2.mono fun k _ e => .inr (by subst e; rfl))).trans' (f3.mono fun k _ e => .inl e)
set_option maxHeartbeats 4000000 in
theorem dDrop_no (d : DT B w p most last v l) {id : Nat} (h : ∀ r ∈ l, r.id ≠ id) : Calls Try.prog 12 #[.pointer (some ⟨p, 0, none⟩), .int .u64 (id : Int)] w fun e w' => e = .returned (.int .i64 12) ∧ Fr F0 w w' := by
  have H1 := Lib.hid (dfind_no d h)
  clear d h
  go_enter Try.func12, Try.ntmps12
  go_wp2_with fail
  (with_reducible refine H1.out.mono ?_); rintro e w1 ⟨k, rfl, f1⟩
  have F1 := Lib.hid f1
  clear f1 H1
  go_wp2_with fail
  go_ret
  exact ⟨rfl, F1.out⟩
set_option maxHeartbeats 4000000 in
theorem dDrop_nil (id : Nat) (w : World) : Calls Try.prog 12 #[.pointer none, .int .u64 (id : Int)] w fun e w' => e = .returned (.int .i64 1) ∧ w' = w := by
  go_enter Try.func12, Try.ntmps12
  go_wp2_with fail
  go_ret
  exact ⟨rfl, rfl⟩
end
end Go.Proofs.Ytkekdbnmeobgiaa

/- Layer 18 (due): slices.IndexFunc and DeleteFunc of rows, with the predicate of Over. -/
namespace Go.Proofs.Ytkekdbnmeobgiaa
set_option maxRecDepth 100000
set_option linter.unusedVariables false
set_option linter.unusedSimpArgs false
open Go.RowKit

/-- The box of a captured number. -/
def NowB (g now : Nat) (w : World) : Prop := w.heap[g]? = some (.cells #[.int .u64 (now : Int)] 23 (0, 0))
set_option maxHeartbeats 4000000 in
theorem dOver1_any {w : World} {gn now : Nat} (h : NowB gn now w) (a b : Nat) (x : ByteArray) (o : Bool) (ho : decide (now ≤ b) = o) :
    Calls Try.prog 26 #[.agg #[.int .u64 (a : Int), .int .u64 (b : Int), .string x], .pointer (some ⟨gn, 0, none⟩)] w fun e w' => e = .returned (.bool o) ∧ Fr F0 w w' := by
  have f1 : Fr F0 w (w.alloc (.cells #[.int .u64 (a : Int), .int .u64 (b : Int), .string x] 65)) := (Fr.refl F0 w).alloc _
  have h1 : (w.alloc (.cells #[.int .u64 (a : Int), .int .u64 (b : Int), .string x] 65)).heap[gn]? = some (.cells #[.int .u64 (now : Int)] 23 (0, 0)) := keep_alloc h
  have ho2 : decide ((now : Int) ≤ (b : Int)) = o := by rw [← ho]; exact decide_eq_decide.2 (by omega)
  have F := Lib.hid f1
  clear f1 h
  go_enter Try.func26, Try.ntmps26
  go_wp2_with fail
  go_ret
  exact ⟨rfl, F.out⟩

set_option maxRecDepth 100000 in
set_option maxHeartbeats 8000000 in
theorem dIdxFunc_any {B : Nat} {w : World} {v : Value} {l : List Ro} (h : OwnD B w v l) (hl : l.length ≤ 100000) {gn now : Nat} (hb : NowB gn now w) :
    Calls Try.prog 35 #[v, .func (.func 26) #[] #[.pointer (some ⟨gn, 0, none⟩)]] w fun e w' =>
      ((e = .returned (.int .i64 (-1)) ∧ ∀ r ∈ l, r.due < now) ∨ ∃ i : Nat, e = .returned (.int .i64 (i : Int)) ∧ i < l.length ∧ (∀ r ∈ l.take i, r.due < now) ∧ ∀ r, l[i]? = some r → now ≤ r.due) ∧ Fr F0 w w' := by
  have eg : ∀ args w, (callFunc 26 args).run Try.prog w = .ok (.enter 26 args) w := enters_of Try.func26 (by kernel_rfl) rfl
  have HC := Lib.hid (fun W (f : Fr F0 w W) a b x o ho => dOver1_any (show NowB gn now W from f.keeps (fun x => x) hb) a b x o ho)
  rcases h.row with ⟨rfl, rfl⟩ | ⟨g, c, rfl, -, -, -, -, -⟩
  · clear h HC hb
    go_enter Try.func35, Try.ntmps35
    go_wp2_with fail
    go_loopw [8] (fun x wr => x = .int .i64 0 ∧ wr = w) (fun _ _ => 0)
    case atStart => exact ⟨rfl, rfl⟩
    case round =>
      obtain ⟨rfl, hw⟩ := hrel
      replace hw := hw.symm
      subst hw
      go_wp2_with fail
      go_ret
      exact ⟨.inl ⟨rfl, fun r h => by cases h⟩, Fr.refl _ _⟩
  · have HO := Lib.hid h
    obtain ⟨n, hn⟩ : ∃ n, l.length = n := ⟨_, rfl⟩
    rw [hn] at hl HO ⊢
    replace hn := Lib.hid hn
    clear h hb
    go_enter Try.func35, Try.ntmps35
    go_wp2_with fail
    go_loopw [8] (fun x wr => ∃ k : Nat, x = .int .i64 (k : Int) ∧ k ≤ n ∧ (∀ r ∈ l.take k, r.due < now) ∧ Fr F0 w wr) (fun x _ => n - (intOf x).toNat)
    case atStart => exact ⟨0, rfl, Nat.zero_le _, fun r h => by simp at h, Fr.refl _ _⟩
    case round =>
      obtain ⟨k, rfl, hk, hlt, F⟩ := hrel
      have HI := Lib.hid (And.intro hlt F)
      clear hlt F
      by_cases h1 : k < n
      · have l1 : (k : Int) < (n : Int) := by omega
        have hr := List.getElem?_eq_getElem (show k < l.length by have := hn.out; omega)
        have hld := OwnD.load (HO.out.fr0 HI.out.2) k _ hr
        obtain ⟨r, hre⟩ : ∃ r, l[k]'(by have := hn.out; omega) = r := ⟨_, rfl⟩
        rw [hre] at hr hld
        obtain ⟨o, ho⟩ : ∃ o, decide (now ≤ r.due) = o := ⟨_, rfl⟩
        have HCr := Lib.hid (HC.out _ HI.out.2 r.id r.due r.x o ho)
        have k1 : IntKind.i64.wrap ((k : Int) + 1) = ((k + 1 : Nat) : Int) := by rw [IntWalk.i64_in _ (by omega)]; omega
        have HR := Lib.hid (And.intro hr ho)
        generalize r.due = rd at hld HCr
        generalize r.x = rx at hld HCr
        generalize r.id = ri at hld HCr
        clear hr hre HC ho
        cases o with
        | true =>
          go_wp2_with fail
          (with_reducible refine HCr.out.mono ?_); rintro e w1 ⟨rfl, f1⟩
          have F1 := Lib.hid (HI.out.2.trans' f1)
          clear f1 hld HCr
          go_wp2_with fail
          go_ret
          exact ⟨.inr ⟨k, rfl, h1, HI.out.1, fun s hs => by
            rw [HR.out.1] at hs
            cases hs
            exact of_decide_eq_true HR.out.2⟩, F1.out⟩
        | false =>
          go_wp2_with fail
          (with_reducible refine HCr.out.mono ?_); rintro e w1 ⟨rfl, f1⟩
          have F1 := Lib.hid (HI.out.2.trans' f1)
          clear f1 hld HCr
          go_wp2_with fail
          go_roundw
          case rel =>
            refine ⟨k + 1, rfl, by omega, fun s hs => ?_, F1.out⟩
            rw [List.take_add_one, HR.out.1] at hs
            rcases List.mem_append.1 hs with h | h
            · exact HI.out.1 s h
            · obtain rfl := List.mem_singleton.1 (by simpa using h)
              have := of_decide_eq_false HR.out.2
              omega
          case measure => simp [intOf]; omega
      · obtain rfl : k = n := by omega
        have l1 : ¬ (k : Int) < (k : Int) := by omega
        go_wp2_with fail
        go_ret
        refine ⟨.inl ⟨rfl, fun r hr => HI.out.1 r ?_⟩, HI.out.2⟩
        rw [List.take_of_length_le (Nat.le_of_eq hn.out)]
        exact hr
end Go.Proofs.Ytkekdbnmeobgiaa

/- Layer 18 (due): slices.DeleteFunc of rows: those that are late stay. -/
namespace Go.Proofs.Ytkekdbnmeobgiaa
set_option maxRecDepth 100000
set_option linter.unusedVariables false
set_option linter.unusedSimpArgs false
open Go.RowKit

/-- Those that are late. -/
def lateL (l : List Ro) (now : Nat) : List Ro := l.filter fun r => decide (r.due < now)
theorem lateL_all {l : List Ro} {now : Nat} (h : ∀ r ∈ l, r.due < now) : lateL l now = l := List.filter_eq_self.2 fun r hr => decide_eq_true (h r hr)
theorem lateL_app (a b : List Ro) (now : Nat) : lateL (a ++ b) now = lateL a now ++ lateL b now := List.filter_append _ _
/-- A whole row of a list of one's own is stored. -/
theorem OwnD.putRow {B : Nat} {w : World} {g n c : Nat} {l : List Ro} (h : OwnD B w (.slice (some ⟨g, 0, none⟩) n c) l) (i : Nat) (hi : i < n) (r : Ro) :
    ∃ W, (storeRowAt 65 (.pointer (some ⟨g, i * 3, none⟩)) (.agg #[.int .u64 (r.id : Int), .int .u64 (r.due : Int), .string r.x])).run Try.prog w = .ok () W ∧ OwnD B W (.slice (some ⟨g, 0, none⟩) n c) (l.set i r) ∧ Fr (fun k => k = g) w W := by
  have hn : n = l.length := (Sl.of_own h.own).1.symm
  have hi' : i < l.length := by omega
  obtain ⟨s, hs⟩ : ∃ s, l[i]? = some s := ⟨_, List.getElem?_eq_getElem hi'⟩
  have hz : ∀ j, w.frozen? ⟨g, j, none⟩ = false := fun j => by
    obtain ⟨g', c', hv, -, -, -, -, cur, hc, -, -⟩ := (OwnD.row h).resolve_left (fun e => by cases e.1)
    cases hv
    rw [frozen_at, hc]
    rfl
  have hrun := run_storeAt_mid (P := Try.prog) w g (i * 3) 65 #[.int .u64 (r.id : Int), .int .u64 (r.due : Int), .string r.x] (fun j hj => by
    have hj' : j < 3 := hj
    refine ⟨?_, hz _⟩
    rw [cell_at]
    obtain ⟨u, hu⟩ : ∃ u, (encR s)[j]? = some u := ⟨_, List.getElem?_eq_getElem (by rw [encR_len]; exact hj')⟩
    rw [OwnD.cell h i j s u hs hu]
    rfl) (by rw [Try.szDRow]; rfl) (rowOne_R _ _ _)
  refine ⟨_, hrun, ?_, ?_⟩
  · have o1 := OwnE.setC encR_len h i 0 ⟨r.id, s.due, s.x⟩ (.int .u64 (r.id : Int)) hi' (by decide) (fun y hy => by rw [hs] at hy; cases hy; rfl)
    have o2 := OwnE.setC encR_len o1 i 1 ⟨r.id, r.due, s.x⟩ (.int .u64 (r.due : Int)) (by simpa using hi') (by decide) (fun y hy => by rw [List.getElem?_set_self hi'] at hy; cases hy; rfl)
    have o3 := OwnE.setC encR_len o2 i 2 r (.string r.x) (by simpa using hi') (by decide) (fun y hy => by rw [List.getElem?_set_self (by simpa using hi')] at hy; cases hy; rfl)
    rw [List.set_set, List.set_set] at o3
    exact o3
  · exact (((Fr.refl (fun k => k = g) w).setCell (p := ⟨g, i * 3, none⟩) (fun _ => rfl) _).setCell (p := ⟨g, i * 3 + 1, none⟩) (fun _ => rfl) _).setCell (p := ⟨g, i * 3 + 2, none⟩) (fun _ => rfl) _
/-- The rows behind i are cleared, and the list is cut there. -/
theorem OwnD.cutAt {B : Nat} {w : World} {g n c i : Nat} {l : List Ro} (h : OwnD B w (.slice (some ⟨g, 0, none⟩) n c) l) (hi : i < n) :
    ∃ W, (∀ ty, (clearDs ty #[.slice (some ⟨g, i * 3, none⟩) (n - i) (c - i)]).run Try.prog w = .ok (.tuple #[]) W) ∧ OwnD B W (.slice (some ⟨g, 0, none⟩) i c) (l.take i) ∧ Fr (fun k => k = g) w W := by
  obtain ⟨g', cc, hv, hB, hlt, hlc, hcm, cur, hg, hs, ht⟩ := (OwnD.row h).resolve_left (fun e => by cases e.1)
  cases hv
  obtain ⟨cs', hr, hs', ht'⟩ := run_clearD w g (i * 3) (l.length - i) (c - i) cur _ hg (by omega) (by omega)
  refine ⟨_, hr, ?_, (Fr.refl (fun k => k = g) w).setRow (fun _ => rfl) _⟩
  have hti : (l.take i).length = i := by rw [List.length_take]; omega
  have := OwnD.of_row (l := l.take i) (cur := cs') (new_row hg) hB (by omega) hcm (by omega) (by
    rw [hti, ht', ← flat_take, ← ht, List.take_take, show min (i * 3) (l.length * 3) = i * 3 by omega])
  rw [hti] at this
  exact this

/-- What DeleteFunc's rounds keep: ahead of i those that stay, from j on what was there. -/
structure Kept (l M : List Ro) (now i j : Nat) : Prop where
  len : M.length = l.length
  low : M.take i = lateL (l.take j) now
  high : M.drop j = l.drop j
  lt : i < j
theorem Kept.start {l : List Ro} {now i : Nat} {r : Ro} (h : ∀ r ∈ l.take i, r.due < now) (hr : l[i]? = some r) (hn : now ≤ r.due) : Kept l l now i (i + 1) := by
  refine ⟨rfl, ?_, rfl, Nat.lt_succ_self i⟩
  rw [List.take_add_one, hr, lateL_app, lateL_all h]
  unfold lateL
  simp
  omega
theorem drop_set_lt {α : Type} (l : List α) (i j : Nat) (x : α) (h : i < j) : (l.set i x).drop j = l.drop j := by
  refine List.ext_getElem? fun k => ?_
  rw [List.getElem?_drop, List.getElem?_drop, List.getElem?_set_ne (by omega)]
theorem Kept.get {l M : List Ro} {now i j : Nat} (h : Kept l M now i j) (k : Nat) (hk : j ≤ k) : M[k]? = l[k]? := by
  have := congrArg (fun z : List Ro => z[k - j]?) h.high
  simpa [show j + (k - j) = k by omega] using this
theorem Kept.skip {l M : List Ro} {now i j : Nat} {r : Ro} (h : Kept l M now i j) (hr : l[j]? = some r) (hn : now ≤ r.due) : Kept l M now i (j + 1) := by
  refine ⟨h.len, ?_, ?_, Nat.lt_succ_of_lt h.lt⟩
  · rw [List.take_add_one, hr, lateL_app, ← h.low]
    unfold lateL
    simp
    omega
  · rw [← List.drop_drop, ← List.drop_drop, h.high]
theorem Kept.keep {l M : List Ro} {now i j : Nat} {r : Ro} (h : Kept l M now i j) (hr : l[j]? = some r) (hn : r.due < now) : Kept l (M.set i r) now (i + 1) (j + 1) := by
  have hj : j < l.length := (List.getElem?_eq_some_iff.1 hr).1
  have hlt := h.lt
  have hl := h.len
  refine ⟨by rw [List.length_set]; exact hl, ?_, ?_, by omega⟩
  · rw [show l.take (j + 1) = l.take j ++ [r] by rw [List.take_add_one, hr]; rfl, lateL_app, ← h.low, List.take_add_one, List.getElem?_set_self (by omega), set_take, List.set_eq_of_length_le (by rw [List.length_take]; omega)]
    congr 1
    unfold lateL
    simp [hn]
  · rw [drop_set_lt _ _ _ _ (by omega), ← List.drop_drop, ← List.drop_drop, h.high]
theorem Kept.done {l M : List Ro} {now i : Nat} (h : Kept l M now i l.length) : M.take i = lateL l now := by
  rw [h.low, List.take_length]

set_option maxRecDepth 100000 in
set_option maxHeartbeats 16000000 in
theorem dDelFunc_any {B : Nat} {w : World} {v : Value} {l : List Ro} (h : OwnD B w v l) (hl : l.length ≤ 100000) {gn now : Nat} (hb : NowB gn now w) (hg : v.ownBlock ≠ some gn) :
    Calls Try.prog 25 #[v, .func (.func 26) #[] #[.pointer (some ⟨gn, 0, none⟩)]] w fun e w' => ∃ a' n' c', e = .returned (.slice a' n' c') ∧ OwnD B w' (.slice a' n' c') (lateL l now) ∧ Fr (fun k => v.ownBlock = some k) w w' ∧ (Value.slice a' n' c').ownBlock = v.ownBlock := by
  have eg : ∀ args w, (callFunc 26 args).run Try.prog w = .ok (.enter 26 args) w := enters_of Try.func26 (by kernel_rfl) rfl
  have HC := Lib.hid (fun W (f : Fr (fun k => v.ownBlock = some k) w W) a b x o ho => dOver1_any (show NowB gn now W from f.keeps hg hb) a b x o ho)
  have HX := Lib.hid (dIdxFunc_any h hl hb)
  obtain ⟨a0, c0, e0, -⟩ := h.is
  obtain ⟨n, hn⟩ : ∃ n, l.length = n := ⟨_, rfl⟩
  rw [hn] at hl e0 HX
  replace hn := Lib.hid hn
  subst e0
  have HO := Lib.hid h
  clear h hb hg
  go_enter Try.func25, Try.ntmps25
  go_wp2_with fail
  (with_reducible refine HX.out.mono ?_); rintro e w1 ⟨⟨rfl, ha⟩ | ⟨i, rfl, hi, ha, hr⟩, f1⟩
  · have H1 := Lib.hid (And.intro ha f1)
    clear ha f1 HX
    go_wp2_with fail
    go_ret
    exact ⟨_, _, _, rfl, by rw [lateL_all H1.out.1]; exact HO.out.fr0 H1.out.2, H1.out.2.of0, rfl⟩
  · obtain ⟨g, rfl⟩ : ∃ g, a0 = some ⟨g, 0, none⟩ := by
      rcases OwnD.row HO.out with ⟨h1, h2⟩ | ⟨g, c, hv, -⟩
      · have := hn.out; rw [h2] at this; simp at this; omega
      · cases hv; exact ⟨g, rfl⟩
    have hlr := List.getElem?_eq_getElem (show i < l.length by have := hn.out; omega)
    have K0 := Lib.hid (Kept.start ha hlr (hr _ hlr))
    have O1 := Lib.hid (And.intro (HO.out.fr0 f1) f1)
    have hne : ((i : Int) == -1) = false := beq_eq_false_iff_ne.2 (by omega)
    have k0 : IntKind.i64.wrap ((i : Int) + 1) = ((i + 1 : Nat) : Int) := by rw [IntWalk.i64_in _ (by omega)]; omega
    clear ha hr f1 HX hlr
    go_wp2_with fail
    go_loopw [5, 6, 7] (fun x y _ wr => ∃ (i j : Nat) (M : List Ro), x = .int .i64 (i : Int) ∧ y = .int .i64 (j : Int) ∧ j ≤ n ∧ Kept l M now i j ∧ OwnD B wr (.slice (some ⟨g, 0, none⟩) n c0) M ∧ Fr (fun k => k = g) w wr) (fun _ y _ _ => n - (intOf y).toNat)
    case atStart => exact ⟨i, i + 1, l, rfl, rfl, by omega, K0.out, O1.out.1, O1.out.2.of0⟩
    case round =>
      clear K0 O1 hne k0
      obtain ⟨i, j, M, rfl, rfl, hj, hK, o, F⟩ := hrel
      have hlt := hK.lt
      have HK := Lib.hid (And.intro hK (And.intro o F))
      clear hK o F
      by_cases h1 : j < n
      · have l1 : (j : Int) < (n : Int) := by omega
        have hr := List.getElem?_eq_getElem (show j < l.length by have := hn.out; omega)
        have hld := OwnD.load HK.out.2.1 j _ ((HK.out.1.get j (Nat.le_refl _)).trans hr)
        obtain ⟨r, hre⟩ : ∃ r, l[j]'(by have := hn.out; omega) = r := ⟨_, rfl⟩
        rw [hre] at hr hld
        obtain ⟨o, ho⟩ : ∃ o, decide (now ≤ r.due) = o := ⟨_, rfl⟩
        have HR := Lib.hid (And.intro hr ho)
        have HCr := Lib.hid (fun W (f : Fr F0 wr W) => HC.out W ((HK.out.2.2.mono fun k _ e => by subst e; rfl).trans' f.of0) r.id r.due r.x o ho)
        have HP := Lib.hid (fun W (f : Fr F0 wr W) => OwnD.putRow (HK.out.2.1.fr0 f) i (by omega) r)
        generalize r.due = rd at hld HCr HP
        generalize r.x = rx at hld HCr HP
        generalize r.id = ri at hld HCr HP
        have oS := rowOne_R (ri : Int) (rd : Int) rx
        have k1 : IntKind.i64.wrap ((i : Int) + 1) = ((i + 1 : Nat) : Int) := by rw [IntWalk.i64_in _ (by omega)]; omega
        have k2 : IntKind.i64.wrap ((j : Int) + 1) = ((j + 1 : Nat) : Int) := by rw [IntWalk.i64_in _ (by omega)]; omega
        clear hr hre HC ho
        go_upto_region 8 with fail
        refine wp_put fun W3 N => ?_
        have r7 := N.new
        have F3 := N.fr
        clear N hld
        obtain ⟨g7, hg7⟩ : ∃ g, wr.heap.size = g := ⟨_, rfl⟩
        rw [hg7] at r7 ⊢
        clear hg7
        have HC3 := Lib.hid (HCr.out W3 F3)
        have HF3 := Lib.hid F3
        clear F3 HCr
        cases o with
        | true =>
          clear HP
          go_wp2_with fail
          (with_reducible refine HC3.out.mono ?_); rintro e w4 ⟨rfl, f4⟩
          have F4 := Lib.hid (HF3.out.trans' f4)
          clear f4 HC3
          go_wp2_with fail
          go_roundw
          case rel => exact ⟨i, j + 1, M, rfl, rfl, by omega, HK.out.1.skip HR.out.1 (of_decide_eq_true HR.out.2), HK.out.2.1.fr0 F4.out, HK.out.2.2.trans' F4.out.of0⟩
          case measure => simp [intOf]; omega
        | false =>
          go_wp2_with fail
          (with_reducible refine HC3.out.mono ?_); rintro e w4 ⟨rfl, f4⟩
          have F4 := Lib.hid (HF3.out.trans' f4)
          replace r7 := keep_fr f4 r7
          obtain ⟨w5, hst, o5, f5⟩ := HP.out w4 F4.out
          have H5 := Lib.hid (And.intro o5 f5)
          clear f4 HC3 o5 f5 HP
          go_wp2_with fail
          go_roundw
          case rel => exact ⟨i + 1, j + 1, M.set i r, rfl, rfl, by omega, HK.out.1.keep HR.out.1 (by have := of_decide_eq_false HR.out.2; omega), H5.out.1, (HK.out.2.2.trans' F4.out.of0).trans' H5.out.2⟩
          case measure => simp [intOf]; omega
      · obtain rfl : j = n := by omega
        have l1 : ¬ (j : Int) < (j : Int) := by omega
        obtain ⟨W, hcl, oW, fW⟩ := OwnD.cutAt HK.out.2.1 hlt
        have hlc : j ≤ c0 := by
          obtain ⟨g', cc, hv, hB, hlt, hlc, hcm, cur, hg, hs, ht⟩ := (OwnD.row HK.out.2.1).resolve_left (fun e => by cases e.1)
          cases hv
          omega
        have hic : i ≤ c0 := by omega
        have hij : i ≤ j := by omega
        have hne : ¬ c0 = i := by omega
        have HW := Lib.hid (And.intro oW fW)
        clear oW fW HC
        go_wp2_with fail
        go_ret
        have e := HK.out.1
        rw [← hn.out] at e
        rw [e.done] at HW
        exact ⟨_, _, _, rfl, HW.out.1, (HK.out.2.2.trans' HW.out.2).mono (fun k _ e => by subst e; rfl), rfl⟩
end Go.Proofs.Ytkekdbnmeobgiaa

/- Layer 18 (due): the order of those that are late; the comparison, and the library's sort by it. -/
namespace Go.Proofs.Ytkekdbnmeobgiaa
set_option maxRecDepth 100000
set_option linter.unusedVariables false
set_option linter.unusedSimpArgs false
open Go.RowKit Go.Sort

/-- The first one that isn't 0. -/
def orZ (x y : Int) : Int := if x = 0 then y else x
/-- Due first, and of one tick the lesser number first. -/
def lexR (a b : Ro) : Prop := a.due < b.due ∨ (a.due = b.due ∧ a.id < b.id)
def cfR (a b : Ro) : Int := orZ (cpr a.due b.due) (cpr a.id b.id)
theorem cfR_lt (a b : Ro) : ltOf cfR a b = true ↔ lexR a b := by
  unfold ltOf cfR lexR orZ cpr
  rw [decide_eq_true_iff]
  split <;> split <;> (try split) <;> (try split) <;> omega
theorem cfR_nlt (a b : Ro) : ltOf cfR a b = false ↔ ¬ lexR a b := by
  rw [← cfR_lt]
  cases ltOf cfR a b <;> simp
theorem cfR_swo : SWO (ltOf cfR) where
  irrefl x := by rw [cfR_nlt]; unfold lexR; omega
  trans x y z h1 h2 := by rw [cfR_lt] at *; unfold lexR at *; omega
  ntrans x y z h1 h2 := by rw [cfR_nlt] at *; unfold lexR at *; omega

set_option maxHeartbeats 4000000 in
theorem cmpOr_any {w : World} {g : Nat} {a b : Int} (h : w.heap[g]? = some (.cells #[.int .i64 a, .int .i64 b] 3 (0, 0))) : Calls Try.prog 29 #[.slice (some ⟨g, 0, none⟩) 2 2] w fun e w' => e = .returned (.int .i64 (orZ a b)) ∧ w' = w := by
  have c0 : Obj.cellAt 0 w.heap[g]? = some (.int .i64 a) := by rw [h]; rfl
  have c1 : Obj.cellAt 1 w.heap[g]? = some (.int .i64 b) := by rw [h]; rfl
  clear h
  go_enter Try.func29, Try.ntmps29
  go_wp2_with fail
  go_loopw [8] (fun x wr => wr = w ∧ ∃ k : Nat, x = .int .i64 (k : Int) ∧ k ≤ 2 ∧ (1 ≤ k → a = 0) ∧ (2 ≤ k → b = 0)) (fun x _ => 2 - (intOf x).toNat)
  case atStart => exact ⟨rfl, 0, rfl, by omega, (fun h => by omega), (fun h => by omega)⟩
  case round =>
    obtain ⟨hw, k, rfl, hk, h1, h2⟩ := hrel
    replace hw := hw.symm
    subst hw
    match k, hk with
    | 0, _ =>
      by_cases ha : a = 0
      · subst ha
        go_wp2_with fail
        go_roundw
        case rel => refine ⟨?_, 1, ?_, ?_, ?_, ?_⟩ <;> simp
        case measure => simp [intOf]
      · have n1 : (a != 0) = true := bne_iff_ne.2 ha
        have n2 : (a == 0) = false := beq_eq_false_iff_ne.2 ha
        go_wp2_with fail
        go_ret
        exact ⟨by unfold orZ; rw [if_neg ha]; rfl, rfl⟩
    | 1, _ =>
      obtain rfl := h1 (Nat.le_refl _)
      by_cases hb : b = 0
      · subst hb
        go_wp2_with fail
        go_roundw
        case rel => refine ⟨?_, 2, ?_, ?_, ?_, ?_⟩ <;> simp
        case measure => simp [intOf]
      · have n1 : (b != 0) = true := bne_iff_ne.2 hb
        have n2 : (b == 0) = false := beq_eq_false_iff_ne.2 hb
        go_wp2_with fail
        go_ret
        exact ⟨by unfold orZ; rw [if_pos rfl]; rfl, rfl⟩
    | 2, _ =>
      obtain rfl := h1 (by omega)
      obtain rfl := h2 (Nat.le_refl _)
      go_wp2_with fail
      go_ret
      exact ⟨rfl, rfl⟩
theorem grow_push (W : World) (os : Array Obj) (o : Obj) : (grow W os).alloc o = grow W (os ++ #[o]) := by rw [alloc_eq_grow, grow_grow]
theorem grow_more {W w : World} (h : ∃ q os, w = grow (W.drewN q) os) (o : Obj) : ∃ q os, w.alloc o = grow (W.drewN q) os := by
  obtain ⟨q, os, rfl⟩ := h
  exact ⟨q, _, grow_push _ _ _⟩
set_option maxHeartbeats 4000000 in
theorem dOver2_any (a b a2 b2 : Nat) (x x2 : ByteArray) (W : World) :
    Calls Try.prog 28 #[.agg #[.int .u64 (a : Int), .int .u64 (b : Int), .string x], .agg #[.int .u64 (a2 : Int), .int .u64 (b2 : Int), .string x2]] W fun e w' => e = .returned (.int .i64 (orZ (cpr b b2) (cpr a a2))) ∧ ∃ q os', w' = grow (W.drewN q) os' := by
  have H1 := Lib.hid (cmpU_any b b2)
  have H2 := Lib.hid (cmpU_any a a2)
  have H3 := Lib.hid (fun w g h => cmpOr_any (w := w) (g := g) (a := cpr b b2) (b := cpr a a2) h)
  generalize cpr b b2 = z1 at *
  generalize cpr a a2 = z2 at *
  go_enter Try.func28, Try.ntmps28
  go_wp2_with fail
  obtain ⟨g2, hg2⟩ : ∃ g, W.heap.size = g := ⟨_, rfl⟩
  obtain ⟨W1, hW1⟩ : ∃ X, X = (W.alloc (.cells #[.int .u64 (a : Int), .int .u64 (b : Int), .string x] 65)).alloc (.cells #[.int .u64 (a2 : Int), .int .u64 (b2 : Int), .string x2] 65) := ⟨_, rfl⟩
  have r2 : W1.heap[g2]? = some (.cells #[.int .u64 (a : Int), .int .u64 (b : Int), .string x] 65 (0, 0)) := by rw [hW1, ← hg2]; exact keep_alloc (heap_alloc_new _ _)
  have r3 : W1.heap[g2 + 1]? = some (.cells #[.int .u64 (a2 : Int), .int .u64 (b2 : Int), .string x2] 65 (0, 0)) := by rw [hW1, ← hg2, show W.heap.size + 1 = (W.alloc (.cells #[.int .u64 (a : Int), .int .u64 (b : Int), .string x] 65)).heap.size by simp]; exact heap_alloc_new _ _
  have G1 : Hid (∃ q os', W1.drew = grow (W.drewN q) os') := Lib.hid ⟨1, _, by rw [hW1, alloc_eq_grow, alloc_eq_grow, grow_grow]; rfl⟩
  rw [hg2, ← hW1]
  obtain ⟨g3, hg3⟩ : ∃ g, g2 + 1 = g := ⟨_, rfl⟩
  rw [hg3] at r3 ⊢
  clear hW1 hg2 hg3
  have H4 := Lib.hid (H3.out (W1.alloc (.cells #[.int .i64 z1, .int .i64 z2] 3)).drew W1.heap.size (show (W1.alloc (.cells #[.int .i64 z1, .int .i64 z2] 3)).heap[W1.heap.size]? = _ from heap_alloc_new W1 _))
  refine rbegin (S := (fun w' => (w'.heap[g2]? = some (.cells #[.int .u64 (a : Int), .int .u64 (b : Int), .string x] 65 (0, 0)) ∧ w'.heap[g3]? = some (.cells #[.int .u64 (a2 : Int), .int .u64 (b2 : Int), .string x2] 65 (0, 0))) ∧ ∃ q os', w' = grow (W.drewN q) os')) ?_ fun hHeld => ?_
  · ((try dsimp only) <;> (exact ⟨⟨r2, r3⟩, G1.out⟩))
  refine rtake 0 ?_
  refine rtake 1 ?_
  refine rtake 2 ?_
  refine rtake 3 ?_
  refine rtake 5 ?_
  refine rtake 6 ?_
  refine rtake 7 ?_
  refine rtake 8 ?_
  refine rone 4 fun K hK => ?_
  go_simp
  ((with_reducible refine (H1.out _).mono ?_); rintro e w5 ⟨rfl, hw⟩; replace hw := hw.symm; subst hw)
  refine hK.out _ _ ?_ (fun hHeld => ?_)
  · ((try dsimp only) <;> (exact hHeld))
  clear hK K
  try (simp only [Act.put, aST]; dsimp only [aS0, aS1])
  refine rone 9 fun K hK => ?_
  go_simp
  ((with_reducible refine (H2.out _).mono ?_); rintro e w5 ⟨rfl, hw⟩; replace hw := hw.symm; subst hw)
  refine hK.out _ _ ?_ (fun hHeld => ?_)
  · ((try dsimp only) <;> (exact hHeld))
  clear hK K
  try (simp only [Act.put, aST]; dsimp only [aS0, aS1])
  refine rone 10 fun K hK => ?_
  go_simp
  refine hK.out _ _ ?_ (fun hHeld => ?_)
  · ((try dsimp only) <;> (first | exact hHeld | exact ⟨⟨keep_alloc hHeld.1.1, keep_alloc hHeld.1.2⟩, grow_more hHeld.2 _⟩))
  clear hK K
  try (simp only [Act.put, aST]; dsimp only [aS0, aS1])
  refine rone 11 fun K hK => ?_
  go_simp
  ((with_reducible refine H4.out.mono ?_); rintro e w5 ⟨rfl, hw⟩; replace hw := hw.symm; subst hw)
  refine hK.out _ _ ?_ (fun hHeld => ?_)
  · ((try dsimp only) <;> (exact hHeld))
  clear hK K
  try (simp only [Act.put, aST]; dsimp only [aS0, aS1])
  refine rtake 12 ?_
  refine rdone ?_
  go_wp2_with fail
  go_ret
  exact ⟨rfl, hHeld.2⟩
end Go.Proofs.Ytkekdbnmeobgiaa

/- Layer 18 (due): the library's sort of rows, in plain words; Over. -/
namespace Go.Proofs.Ytkekdbnmeobgiaa
set_option maxRecDepth 100000
set_option linter.unusedVariables false
set_option linter.unusedSimpArgs false
open Go.RowKit Go.Sort

theorem cmpLays_R (blk off size : Nat) (w : World) : CmpLays Try.prog 28 #[] encR 3 cfR blk off size w :=
  fun m os dk hs x y => dOver2_any x.id x.due y.id y.due x.x y.x _

theorem getL_bang {α : Type} [Inhabited α] (l : List α) (i : Nat) (h : i < l.length) : l[i]? = some (l.toArray[i]!) := by
  rw [List.getElem?_eq_getElem h]
  congr 1
  simp [h]
theorem getV_bang (l : List Value) (i : Nat) (h : i < l.length) : l[i]? = some (l[i]!) := by
  rw [List.getElem?_eq_getElem h]
  congr 1
  simp [h]
/-- A list of one's own, as the sort's kit says it. -/
theorem OwnD.holdsK {B : Nat} {w : World} {g n c : Nat} {l : List Ro} (h : OwnD B w (.slice (some ⟨g, 0, none⟩) n c) l) : HoldsK encR 3 w g 0 l.toArray := by
  intro j hj
  rw [size_flatK] at hj
  have hj' : j < l.length * 3 := by simpa using hj
  rw [get_flatK _ _ _ _ hj]
  have h1 : j / 3 < l.length := by omega
  have hr := getL_bang l (j / 3) h1
  have hu : (encR l.toArray[j / 3]!)[j % 3]? = some ((encR l.toArray[j / 3]!)[j % 3]!) := getV_bang _ _ (by rw [encR_len]; exact Nat.mod_lt _ (by decide))
  have hc := OwnD.cell h (j / 3) (j % 3) _ _ hr hu
  rw [show j / 3 * 3 + j % 3 = j by omega] at hc
  obtain ⟨g', c', hv, -, -, -, -, cur, hg, -, -⟩ := (OwnD.row h).resolve_left (fun e => by cases e.1)
  cases hv
  refine ⟨?_, ?_⟩
  · rw [cell_at, Nat.zero_add]; exact hc
  · rw [frozen_at, hg]; rfl
theorem get_flatE (l : List Ro) (j : Nat) (hj : j < l.length * 3) : (l.flatMap encR)[j]? = some ((encR l.toArray[j / 3]!)[j % 3]!) := by
  have h1 : j / 3 < l.length := by omega
  have hm : j % 3 < 3 := Nat.mod_lt _ (by decide)
  have := flat_getE encR_len l (j / 3) (j % 3) _ (getL_bang l (j / 3) h1) hm
  rw [show j / 3 * 3 + j % 3 = j by omega] at this
  rw [this]
  exact getV_bang _ _ (by rw [encR_len]; exact hm)
theorem heap_mapBlock (w : World) (g : Nat) (f : Array Value → Array Value) (cs : Array Value) (t : TypeId) (fr : Nat × Nat) (h : w.heap[g]? = some (.cells cs t fr)) : (mapBlock w g f).heap[g]? = some (.cells (f cs) t fr) := by
  unfold mapBlock
  simp only [Array.getElem?_modify, if_true, h]
  rfl
theorem heap_mapBlock_ne (w : World) (g k : Nat) (f : Array Value → Array Value) (h : g ≠ k) : (mapBlock w g f).heap[k]? = w.heap[k]? := by
  unfold mapBlock
  simp only [Array.getElem?_modify, h, if_false]
theorem heap_grow_old (w : World) (os : Array Obj) (k : Nat) (h : k < w.heap.size) : (grow w os).heap[k]? = w.heap[k]? := by
  unfold grow
  simp only [Array.getElem?_append, h, if_true]
/-- What the sort leaves, as a list of one's own. -/
theorem OwnD.sorted {B : Nat} {w : World} {g n c m : Nat} {l : List Ro} {d : Array Ro} {os : Array Obj} (h : OwnD B w (.slice (some ⟨g, 0, none⟩) n c) l) (hs : d.size = l.length) :
    OwnD B (sortWorldK encR 3 w g 0 m d os) (.slice (some ⟨g, 0, none⟩) n c) d.toList ∧ Fr (fun k => k = g) w (sortWorldK encR 3 w g 0 m d os) := by
  obtain ⟨g', c', hv, hB, hlt, hlc, hcm, cur, hg, hcs, ht⟩ := (OwnD.row h).resolve_left (fun e => by cases e.1)
  cases hv
  have hl : d.toList.length = l.length := by simpa using hs
  have hsz : (putRowK encR 3 (Sort.ahead w m) g 0 d).heap.size = w.heap.size := size_putRowK _ _ _ _ _ _
  have hgn : (sortWorldK encR 3 w g 0 m d os).heap[g]? = some (.cells (putCells id 0 (flatK encR 3 d) cur) 65 (0, 0)) := by
    unfold sortWorldK
    rw [heap_grow_old _ _ _ (by rw [hsz]; exact hlt)]
    exact heap_mapBlock _ _ _ _ _ _ hg
  refine ⟨?_, ?_⟩
  · rw [← hl]
    refine OwnD.of_row hgn hB (by omega) hcm (by rw [← hcs]; unfold putCells; simp) ?_
    refine List.ext_getElem? fun j => ?_
    rw [List.getElem?_take]
    by_cases hj : j < d.toList.length * 3
    · rw [if_pos hj, get_flatE _ _ hj, Array.getElem?_toList]
      unfold putCells
      have hjd : j < d.size * 3 := by omega
      rw [Array.getElem?_mapIdx, Array.getElem?_eq_getElem (by omega)]
      simp only [Option.map_some, size_flatK, Nat.zero_le, Nat.zero_add, hjd, and_self, if_true, id, Nat.sub_zero]
      rw [get_flatK _ _ _ _ hjd, Array.toArray_toList]
    · rw [if_neg hj]
      exact (List.getElem?_eq_none (by rw [flat_lenE encR_len]; omega)).symm
  · refine ⟨rfl, rfl, rfl, ?_, fun k hk hne => ?_⟩
    · unfold sortWorldK
      rw [size_grow, hsz]
      omega
    · unfold sortWorldK
      rw [heap_grow_old _ _ _ (by rw [hsz]; exact hk)]
      exact heap_mapBlock_ne _ _ _ _ (fun e => hne e.symm)
/-- Sorted, by the order of Over. -/
structure OvL (l s : List Ro) : Prop where
  perm : s.Perm l
  asc : s.Pairwise lexR
theorem ovL_of {l : List Ro} {d : Array Ro} (hp : PermIn 0 l.toArray.size l.toArray d) (hs : SortedIn (ltOf cfR) 0 l.toArray.size d) (hn : (l.map Ro.id).Nodup) : d.size = l.length ∧ OvL l d.toList := by
  obtain ⟨h1, -, h2⟩ := hp
  have hsz : d.size = l.length := by simpa using h1
  have hp : d.toList.Perm l := by
    rw [← h1] at h2
    conv at h2 => lhs; rw [Array.extract_size]
    rw [h1] at h2
    simpa using h2
  refine ⟨hsz, hp, ?_⟩
  rw [List.pairwise_iff_getElem]
  intro i j hi hj hij
  have hj' : j < l.toArray.size := by simp at hj ⊢; omega
  have := hs i j (Nat.zero_le _) hij hj'
  rw [cfR_nlt] at this
  simp only [Array.length_toList] at hi hj
  rw [getElem!_pos d j hj, getElem!_pos d i hi] at this
  have hnd : (d.toList.map Ro.id).Nodup := (hp.map Ro.id).nodup_iff.2 hn
  have hne : d[i].id ≠ d[j].id := by
    have := List.pairwise_iff_getElem.1 hnd i j (by simpa using hi) (by simpa using hj) hij
    simpa using this
  simp only [Array.getElem_toList]
  unfold lexR at this ⊢
  omega
end Go.Proofs.Ytkekdbnmeobgiaa

/- Layer 18 (due): the sort's contract; Over. -/
namespace Go.Proofs.Ytkekdbnmeobgiaa
set_option maxRecDepth 100000
set_option linter.unusedVariables false
set_option linter.unusedSimpArgs false
open Go.RowKit Go.Sort

set_option maxHeartbeats 4000000 in
theorem dIns_nil (fv : Value) (w : World) : Calls Try.prog 41 #[.slice none 0 0, .int .i64 0, .int .i64 0, fv] w fun e w' => e = .returned (.tuple #[]) ∧ w' = w := by
  go_enter Try.func41, Try.ntmps41
  go_wp2
  refine wp_loop_rounds 1 ?_
  rw [rounds_succ]
  go_wp2
  go_end0
  exact ⟨rfl, rfl⟩
set_option maxHeartbeats 4000000 in
theorem dPdq_nil (fv : Value) (lim : Int) (w : World) : Calls Try.prog 36 #[.slice none 0 0, .int .i64 0, .int .i64 0, .int .i64 lim, fv] w fun e w' => e = .returned (.tuple #[]) ∧ w' = w := by
  have H := Lib.hid (dIns_nil fv)
  go_enter Try.func36, Try.ntmps36
  go_wp2
  refine wp_loop_rounds 1 ?_
  rw [rounds_succ]
  go_wp2_with fail
  (with_reducible refine (H.out _).mono ?_); rintro e w1 ⟨rfl, hw⟩; replace hw := hw.symm; subst hw
  go_wp2_with fail
  (try simp only [Exit.inBlock, Exit.then]); refine bodyPost_ret (results_none rfl _ _ _) rfl ?_
  exact ⟨rfl, rfl⟩
set_option maxHeartbeats 4000000 in
theorem dSort_nil (fv : Value) (w : World) : Calls Try.prog 27 #[.slice none 0 0, fv] w fun e w' => e = .returned (.tuple #[]) ∧ w' = w := by
  have H1 := Lib.hid (show ∀ w, Calls Try.prog 37 #[.int .u64 0] w fun e w' => e = .returned (.int .i64 (Lib.bitLen 0 : Nat)) ∧ w' = w from fun w => bLen_any 0 (by decide) w)
  have H2 := Lib.hid (dPdq_nil fv)
  generalize (Lib.bitLen 0 : Nat) = z at *
  go_enter Try.func27, Try.ntmps27
  go_wp2_with fail
  (with_reducible refine (H1.out _).mono ?_); rintro e w1 ⟨rfl, hw⟩; replace hw := hw.symm; subst hw
  go_wp2_with fail
  (with_reducible refine (H2.out _ _).mono ?_); rintro e w1 ⟨rfl, hw⟩; replace hw := hw.symm; subst hw
  go_wp2_with fail
  go_end0
  exact ⟨rfl, rfl⟩
theorem dSort_any {B : Nat} {w : World} {v : Value} {l : List Ro} (h : OwnD B w v l) (hl : l.length ≤ 100000) (hn : (l.map Ro.id).Nodup) :
    Calls Try.prog 27 #[v, .func (.func 28) #[] #[]] w fun e w' => e = .returned (.tuple #[]) ∧ ∃ s, OwnD B w' v s ∧ OvL l s ∧ Fr (fun k => v.ownBlock = some k) w w' := by
  rcases h.row with ⟨rfl, rfl⟩ | ⟨g, c, rfl, -, hlt, -, -, -⟩
  · exact (dSort_nil _ w).mono fun e w' ⟨he, hw⟩ => ⟨he, [], by rw [hw]; exact h, ⟨List.Perm.refl _, List.Pairwise.nil⟩, by rw [hw]; exact Fr.refl _ _⟩
  · have hcon := AnyQ.slices_SortFunc Try.laysdSortFunc 3 Try.isAgg65 Try.sizeOf65 encR encR_len encR_one cfR cfR_swo 28 #[] g 0 c l.toArray w (enters_of Try.func28 (by kernel_rfl) rfl) (cmpLays_R g 0 _ w) (OwnD.holdsK h) hlt (by simp; omega)
    have hcon2 : Calls Try.prog 27 #[.slice (some ⟨g, 0, none⟩) l.toArray.size c, .func (.func 28) #[] #[]] w _ := hcon
    rw [show l.toArray.size = l.length by simp] at hcon2
    refine hcon2.mono ?_
    rintro e w' ⟨he, d', n, os, hp, hs, rfl⟩
    obtain ⟨hsz, ho⟩ := ovL_of hp hs hn
    obtain ⟨h1, h2⟩ := OwnD.sorted (m := n) (os := os) h hsz
    exact ⟨he, _, h1, ho, h2.mono fun k _ e => by subst e; rfl⟩
theorem DT.nodup {B : Nat} {w : World} {p most last : Nat} {v : Value} {l : List Ro} (d : DT B w p most last v l) : (l.map Ro.id).Nodup :=
  List.pairwise_map.2 (d.asc.imp fun h => Nat.ne_of_lt h)
theorem nodup_asc {l : List Ro} (h : l.Pairwise fun a b => a.id < b.id) : (l.map Ro.id).Nodup := List.pairwise_map.2 (h.imp fun h => Nat.ne_of_lt h)
theorem lateL_asc {l : List Ro} (h : l.Pairwise fun a b => a.id < b.id) (now : Nat) : (lateL l now).Pairwise fun a b => a.id < b.id := h.sublist List.filter_sublist

set_option maxHeartbeats 8000000 in
theorem dOver_core {B : Nat} {w : World} {pv v : Value} {l : List Ro} (hr : ∀ W, Fr F0 w W → Calls Try.prog 24 #[pv] W fun e w' => e = .returned v ∧ w' = W) (ho : OwnD B w v l) (ha : l.Pairwise fun a b => a.id < b.id) (hl : l.length ≤ 100000) (now : Nat) :
    Calls Try.prog 10 #[pv, .int .u64 (now : Int)] w fun e w' => ∃ gb v' s, e = .returned (.func (.func 31) #[] #[.pointer (some ⟨gb, 0, none⟩)]) ∧ w'.heap[gb]? = some (.cells #[v'] 61 (0, 0)) ∧ OwnD w.heap.size w' v' s ∧ OvL (lateL l now) s ∧ Fr F0 w w' := by
  have hmf : ∀ (fn : Fn) (first cap : Array Value) (w : World), (Instr.makeFunc fn first cap).run Try.prog w = .ok (.func fn first cap) w := fun _ _ _ _ => rfl
  have HR := Lib.hid hr
  have HC := Lib.hid (fun W (f : Fr F0 w W) => dClone_any (ho.fr0 f) hl)
  have HA := Lib.hid (And.intro ha hl)
  clear hr ho ha hl
  go_enter Try.func10, Try.ntmps10
  go_wp2_with fail
  refine calls_new fun W1 N => ?_
  have r3 := N.new
  have F1 := Lib.hid N.fr
  clear N
  obtain ⟨g3, hg3⟩ : ∃ g, w.heap.size = g := ⟨_, rfl⟩
  rw [hg3] at r3 ⊢
  have H3 := Lib.hid (show w.heap.size ≤ g3 ∧ g3 < W1.heap.size from ⟨Nat.le_of_eq hg3, (Array.getElem?_eq_some_iff.1 r3).1⟩)
  clear hg3
  (with_reducible refine (HR.out _ F1.out).mono ?_); rintro e w2 ⟨rfl, hw⟩; replace hw := hw.symm; subst hw
  go_wp2_with fail
  refine (HC.out _ F1.out).mono ?_; rintro e w4 ⟨a4, n4, c4, rfl, o4, f4⟩
  replace r3 := keep_fr f4 r3
  have H4 := Lib.hid (And.intro (o4.mono F1.out.size) (And.intro (F1.out.trans' f4) (show ∀ k, (Value.slice a4 n4 c4).ownBlock = some k → g3 < k from fun k hk => Nat.lt_of_lt_of_le H3.out.2 (o4.blk k hk))))
  clear o4 f4 HR HC
  go_upto_region 2 with fail
  refine wp_new fun W5 N => ?_
  have r5 := N.new
  replace r3 := N.old r3
  have n53 : Hid (∀ k, (Value.slice a4 n4 c4).ownBlock = some k → w4.heap.size ≠ k) := Lib.hid fun k hk => Nat.ne_of_gt (H4.out.1.lt k hk)
  have H5 := Lib.hid (And.intro (H4.out.1.fr0 N.fr) (H4.out.2.1.trans' N.fr))
  clear N
  obtain ⟨g5, hg5⟩ : ∃ g, w4.heap.size = g := ⟨_, rfl⟩
  rw [hg5] at r5 n53 ⊢
  have H5b := Lib.hid (show w.heap.size ≤ g5 from by rw [← hg5]; exact H4.out.2.1.size)
  clear hg5
  have HD := Lib.hid (dDelFunc_any H5.out.1 HA.out.2 r3 (fun e => Nat.lt_irrefl _ (H4.out.2.2 g3 e)))
  go_wp2_with fail
  refine HD.out.mono ?_; rintro e w6 ⟨a6, n6, c6, rfl, o6, f6, b6⟩
  replace r5 := f6.keeps (fun e => n53.out g5 e rfl) r5
  have H6 := Lib.hid (And.intro o6 (And.intro (H5.out.2.trans f6 fun i hi e => absurd hi (Nat.not_lt.2 (H5.out.1.blk i e))) b6))
  clear o6 f6 b6 HD r3
  go_upto_region 3 with fail
  obtain ⟨W7, hW7⟩ : ∃ W, W = w6.setCell ⟨g5, 0, none⟩ (.slice a6 n6 c6) := ⟨_, rfl⟩
  rw [← hW7]
  have r7 : W7.heap[g5]? = some (.cells #[.slice a6 n6 c6] 61 (0, 0)) := by
    rw [hW7, heap_setCell_at, r5]
    rfl
  have f7 : Fr (fun k => k = g5) w6 W7 := by
    rw [hW7]
    exact (Fr.refl (fun k => k = g5) w6).setCell (p := ⟨g5, 0, none⟩) (fun _ => rfl) _
  have n57 : ∀ k, (Value.slice a6 n6 c6).ownBlock = some k → ¬ k = g5 := fun k hk e => n53.out k (by rw [← H6.out.2.2]; exact hk) e.symm
  have H7 := Lib.hid (And.intro (H6.out.1.frS f7 n57) (H6.out.2.1.trans f7 fun i hi e => absurd (show i = g5 from e) (Nat.ne_of_lt (Nat.lt_of_lt_of_le hi H5b.out))))
  have hll : (lateL l now).length ≤ 100000 := Nat.le_trans (List.length_filter_le _ _) HA.out.2
  have HS := Lib.hid (dSort_any H7.out.1 hll (nodup_asc (lateL_asc HA.out.1 now)))
  have N7 := Lib.hid n57
  clear hW7 f7 n57 r5 hll
  go_wp2_with fail
  (with_reducible refine HS.out.mono ?_); rintro e w8 ⟨rfl, s, o8, hs, f8⟩
  replace r7 := f8.keeps (fun e => N7.out g5 e rfl) r7
  have H8 := Lib.hid (And.intro o8 (And.intro hs (H7.out.2.trans f8 fun i hi e => absurd hi (Nat.not_lt.2 (H7.out.1.blk i e)))))
  clear o8 hs f8 HS
  replace r7 := Lib.hid r7
  go_wp2_with fail
  go_ret
  exact ⟨g5, _, s, rfl, r7.out, H8.out⟩
section
variable {B : Nat} {w : World} {p most last : Nat} {v : Value} {l : List Ro}
/-- What Over answers: a function that tells these, as they stand in new memory. -/
def OverQ (w : World) (l : List Ro) (now : Nat) : Ending → World → Prop := fun e w' => ∃ gb v' s, e = .returned (.func (.func 31) #[] #[.pointer (some ⟨gb, 0, none⟩)]) ∧ w'.heap[gb]? = some (.cells #[v'] 61 (0, 0)) ∧ OwnD w.heap.size w' v' s ∧ OvL (lateL l now) s ∧ Fr F0 w w'
theorem dOver_any (d : DT B w p most last v l) (now : Nat) : Calls Try.prog 10 #[.pointer (some ⟨p, 0, none⟩), .int .u64 (now : Int)] w (OverQ w l now) :=
  dOver_core (fun W f => drows_any (d.fr0 f)) d.own d.asc (Nat.le_trans d.l256 (by decide)) now
theorem dOver_nil (now : Nat) (w : World) : Calls Try.prog 10 #[.pointer none, .int .u64 (now : Int)] w (OverQ w [] now) :=
  dOver_core (fun W f => drows_nil W) (OwnE.nil 0 w) List.Pairwise.nil (Nat.zero_le _) now
def AllQ (w : World) (l : List Ro) : Ending → World → Prop := fun e w' => ∃ gb v', e = .returned (.func (.func 34) #[] #[.pointer (some ⟨gb, 0, none⟩)]) ∧ w'.heap[gb]? = some (.cells #[v'] 61 (0, 0)) ∧ OwnD w.heap.size w' v' l ∧ Fr F0 w w'
set_option maxHeartbeats 8000000 in
theorem dAll_core {B : Nat} {w : World} {pv v : Value} {l : List Ro} (hr : ∀ W, Fr F0 w W → Calls Try.prog 24 #[pv] W fun e w' => e = .returned v ∧ w' = W) (ho : OwnD B w v l) (hl : l.length ≤ 100000) :
    Calls Try.prog 21 #[pv] w (AllQ w l) := by
  have hmf : ∀ (fn : Fn) (first cap : Array Value) (w : World), (Instr.makeFunc fn first cap).run Try.prog w = .ok (.func fn first cap) w := fun _ _ _ _ => rfl
  have HR := Lib.hid (hr w (Fr.refl _ _))
  have HC := Lib.hid (dClone_any ho hl)
  clear hr ho hl
  unfold AllQ
  go_enter Try.func21, Try.ntmps21
  go_wp2_with fail
  (with_reducible refine HR.out.mono ?_); rintro e w2 ⟨rfl, hw⟩; replace hw := hw.symm; subst hw
  go_wp2_with fail
  (with_reducible refine HC.out.mono ?_); rintro e w4 ⟨a4, n4, c4, rfl, o4, f4⟩
  have H4 := Lib.hid (And.intro o4 f4)
  clear o4 f4 HR HC
  go_wp2_with fail
  go_ret
  have f5 : Fr F0 w4 (w4.alloc (.cells #[.slice a4 n4 c4] 61)) := (Fr.refl F0 w4).alloc _
  exact ⟨w4.heap.size, _, rfl, heap_alloc_new _ _, H4.out.1.fr0 f5, H4.out.2.trans' f5⟩
theorem dAll_any (d : DT B w p most last v l) : Calls Try.prog 21 #[.pointer (some ⟨p, 0, none⟩)] w (AllQ w l) :=
  dAll_core (fun W f => drows_any (d.fr0 f)) d.own (Nat.le_trans d.l256 (by decide))
theorem dAll_nil (w : World) : Calls Try.prog 21 #[.pointer none] w (AllQ w []) := dAll_core (fun W f => drows_nil W) (OwnE.nil 0 w) (Nat.zero_le _)
end
end Go.Proofs.Ytkekdbnmeobgiaa

/- Layer 18 (due): the functions that All and Over answer, as iterators. -/
namespace Go.Proofs.Ytkekdbnmeobgiaa
set_option maxRecDepth 100000
set_option linter.unusedVariables false
set_option linter.unusedSimpArgs false
open Go.RowKit Go.Shelf

attribute [local go_sem] Oper.semAt_some

theorem wpIn_putE {F : Fence} {n : Nat} {P : Program} {c : Code} {Q : Exit → Act → World → Prop} {a : Act} {w : World} {z cs : Array Value} {t : TypeId} (k : ∀ W, NewRow w W w.heap.size cs t → Code.wpIn F n P c Q a W) : Code.wpIn F n P c Q a ((w.alloc (.cells z t)).setRow w.heap.size cs) := k _ (put_new w z cs t)
abbrev encO (r : Ro) : Array Value := #[.int .u64 (r.id : Int)]
abbrev encA (r : Ro) : Array Value := #[.int .u64 (r.id : Int), .string r.x]
/-- The box of rows. -/
def RowsB (B gb : Nat) (v : Value) (l : List Ro) (w : World) : Prop := w.heap[gb]? = some (.cells #[v] 61 (0, 0)) ∧ OwnD B w v l
theorem RowsB.fr {B gb : Nat} {v : Value} {l : List Ro} {w w' : World} (h : RowsB B gb v l w) (f : Fr F0 w w') : RowsB B gb v l w' := ⟨f.keeps (fun x => x) h.1, h.2.fr0 f⟩
/-- What is told next. -/
def NxR (l : List Ro) (pre : List Ro) (x : Ro) (_ _ : World) : Prop := ∃ k, pre = l.take k ∧ l[k]? = some x

set_option maxRecDepth 100000 in
set_option maxHeartbeats 8000000 in
theorem over_seq (B gb : Nat) (v : Value) (l : List Ro) (hl : l.length ≤ 100000) :
    SeqO Try.prog 31 #[.pointer (some ⟨gb, 0, none⟩)] encO (fun _ _ _ => True) (fun _ W => RowsB B gb v l W) (NxR l) (fun xs => xs = l) := by
  intro lp J Jx W oJ oX hC hY h0
  refine (callsIn_wide (n := 6)).1 ?_
  refine callsIn_of_wp Try.func31 rfl trivial ?_ rfl
  simp only [Try.ntmps31, List.size_toArray, List.length_cons, List.length_nil, Nat.reduceAdd, Nat.reduceSub, Array.replicate_succ, Array.replicate_zero, List.push_toArray, List.append_toArray, List.nil_append, List.cons_append]
  obtain ⟨r1, ho⟩ := hC _ _ h0
  have HH := Lib.hid (And.intro hY (And.intro hC oJ))
  clear oX hY hC oJ
  rcases ho.row with ⟨rfl, rfl⟩ | ⟨g, c, rfl, -, -, -, -, -⟩
  · replace h0 := Lib.hid h0
    clear ho
    gi_wp2
    gi_loopw [7] (fun iv wr => iv = .int .i64 0 ∧ wr = W) (fun _ _ => 0)
    case atStart => exact ⟨rfl, rfl⟩
    case round =>
      obtain ⟨rfl, hw⟩ := hrel
      replace hw := hw.symm
      subst hw
      gi_wp2
      go_end0
      exact ⟨⟨_, rfl⟩, .inl ⟨[], rfl, h0.out⟩⟩
  · clear ho
    obtain ⟨n, hn⟩ : ∃ n, l.length = n := ⟨_, rfl⟩
    rw [hn] at r1 HH hl
    replace hn := Lib.hid hn
    gi_wp2
    gi_loopw [7] (fun iv wr => ∃ k : Nat, iv = .int .i64 (k : Int) ∧ k ≤ n ∧ J (l.take k) wr) (fun iv _ => n - (intOf iv).toNat)
    case atStart => exact ⟨0, rfl, Nat.zero_le _, h0⟩
    case round =>
      clear h0 r1
      obtain ⟨k, rfl, hk, hJ⟩ := hrel
      by_cases hlt : k < n
      · have l1 : (k : Int) < (n : Int) := Int.ofNat_lt.2 hlt
        have hr := List.getElem?_eq_getElem (show k < l.length by have := hn.out; omega)
        have hld := OwnD.load (HH.out.2.1 _ _ hJ).2 k _ hr
        obtain ⟨r, hre⟩ : ∃ r, l[k]'(by have := hn.out; omega) = r := ⟨_, rfl⟩
        rw [hre] at hr hld
        have hY := Lib.hid (fun W1 (f : Fr F0 wr W1) => (HH.out.1 (l.take k) r wr W1 hJ f ⟨k, rfl, hr⟩).plain (m := 5))
        have ht : l.take k ++ [r] = l.take (k + 1) := by rw [List.take_add_one, hr]; rfl
        rw [ht] at hY
        obtain ⟨k1, hk1⟩ : ∃ x, k + 1 = x := ⟨_, rfl⟩
        have m1 : IntKind.i64.wrap ((k : Int) + 1) = (k1 : Int) := by rw [IntWalk.i64_in _ (by omega)]; omega
        rw [hk1] at hY
        have HQ := Lib.hid (And.intro hlt hk1)
        dsimp only [encO] at hY
        clear ht hJ hr hre hk hlt hk1
        generalize r.due = rd at hld
        generalize r.x = rx at hld
        generalize r.id = ri at hld hY
        have oS := rowOne_R (ri : Int) (rd : Int) rx
        gi_upto_region 3 with fail
        refine wpIn_putE fun W3 N => ?_
        have r4 := N.new
        obtain ⟨fn, tmps, assign, body, hy, hYY⟩ := hY.out W3 N.fr
        clear N hld hY
        obtain ⟨g4, hg4⟩ : ∃ g, wr.heap.size = g := ⟨_, rfl⟩
        rw [hg4] at r4 ⊢
        clear hg4
        have HY := Lib.hid hYY
        clear hYY
        gi_wp2
        refine HY.out.mono ?_
        rintro e W5 (⟨rfl, hJ5, -⟩ | ⟨rfl, hJx, -⟩)
        · replace hJ5 := Lib.hid hJ5
          clear r4
          gi_wp2
          go_roundw
          case rel => exact ⟨k1, rfl, by have := HQ.out; omega, hJ5.out⟩
          case measure => have := HQ.out; clear m1; simp [intOf]; omega
        · gi_wp2
          refine bodyPost_ret (results_none rfl _ _ _) rfl ?_
          exact ⟨⟨_, rfl⟩, .inr ⟨_, hJx⟩⟩
      · obtain rfl : k = n := by omega
        rw [List.take_of_length_le (Nat.le_of_eq hn.out)] at hJ
        replace hJ := Lib.hid hJ
        gi_wp2
        go_end0
        exact ⟨⟨_, rfl⟩, .inl ⟨_, rfl, hJ.out⟩⟩
set_option maxRecDepth 100000 in
set_option maxHeartbeats 8000000 in
theorem all18_seq (B gb : Nat) (v : Value) (l : List Ro) (hl : l.length ≤ 100000) :
    SeqO Try.prog 34 #[.pointer (some ⟨gb, 0, none⟩)] encA (fun _ _ _ => True) (fun _ W => RowsB B gb v l W) (NxR l) (fun xs => xs = l) := by
  intro lp J Jx W oJ oX hC hY h0
  refine (callsIn_wide (n := 6)).1 ?_
  refine callsIn_of_wp Try.func34 rfl trivial ?_ rfl
  simp only [Try.ntmps34, List.size_toArray, List.length_cons, List.length_nil, Nat.reduceAdd, Nat.reduceSub, Array.replicate_succ, Array.replicate_zero, List.push_toArray, List.append_toArray, List.nil_append, List.cons_append]
  obtain ⟨r1, ho⟩ := hC _ _ h0
  have HH := Lib.hid (And.intro hY (And.intro hC oJ))
  clear oX hY hC oJ
  rcases ho.row with ⟨rfl, rfl⟩ | ⟨g, c, rfl, -, -, -, -, -⟩
  · replace h0 := Lib.hid h0
    clear ho
    gi_wp2
    gi_loopw [7] (fun iv wr => iv = .int .i64 0 ∧ wr = W) (fun _ _ => 0)
    case atStart => exact ⟨rfl, rfl⟩
    case round =>
      obtain ⟨rfl, hw⟩ := hrel
      replace hw := hw.symm
      subst hw
      gi_wp2
      go_end0
      exact ⟨⟨_, rfl⟩, .inl ⟨[], rfl, h0.out⟩⟩
  · clear ho
    obtain ⟨n, hn⟩ : ∃ n, l.length = n := ⟨_, rfl⟩
    rw [hn] at r1 HH hl
    replace hn := Lib.hid hn
    gi_wp2
    gi_loopw [7] (fun iv wr => ∃ k : Nat, iv = .int .i64 (k : Int) ∧ k ≤ n ∧ J (l.take k) wr) (fun iv _ => n - (intOf iv).toNat)
    case atStart => exact ⟨0, rfl, Nat.zero_le _, h0⟩
    case round =>
      clear h0 r1
      obtain ⟨k, rfl, hk, hJ⟩ := hrel
      by_cases hlt : k < n
      · have l1 : (k : Int) < (n : Int) := Int.ofNat_lt.2 hlt
        have hr := List.getElem?_eq_getElem (show k < l.length by have := hn.out; omega)
        have hld := OwnD.load (HH.out.2.1 _ _ hJ).2 k _ hr
        obtain ⟨r, hre⟩ : ∃ r, l[k]'(by have := hn.out; omega) = r := ⟨_, rfl⟩
        rw [hre] at hr hld
        have hY := Lib.hid (fun W1 (f : Fr F0 wr W1) => (HH.out.1 (l.take k) r wr W1 hJ f ⟨k, rfl, hr⟩).plain (m := 5))
        have ht : l.take k ++ [r] = l.take (k + 1) := by rw [List.take_add_one, hr]; rfl
        rw [ht] at hY
        obtain ⟨k1, hk1⟩ : ∃ x, k + 1 = x := ⟨_, rfl⟩
        have m1 : IntKind.i64.wrap ((k : Int) + 1) = (k1 : Int) := by rw [IntWalk.i64_in _ (by omega)]; omega
        rw [hk1] at hY
        have HQ := Lib.hid (And.intro hlt hk1)
        dsimp only [encA] at hY
        clear ht hJ hr hre hk hlt hk1
        generalize r.due = rd at hld
        generalize r.x = rx at hld hY
        generalize r.id = ri at hld hY
        have oS := rowOne_R (ri : Int) (rd : Int) rx
        gi_upto_region 3 with fail
        refine wpIn_putE fun W3 N => ?_
        have r4 := N.new
        obtain ⟨fn, tmps, assign, body, hy, hYY⟩ := hY.out W3 N.fr
        clear N hld hY
        obtain ⟨g4, hg4⟩ : ∃ g, wr.heap.size = g := ⟨_, rfl⟩
        rw [hg4] at r4 ⊢
        clear hg4
        have HY := Lib.hid hYY
        clear hYY
        gi_wp2
        refine HY.out.mono ?_
        rintro e W5 (⟨rfl, hJ5, -⟩ | ⟨rfl, hJx, -⟩)
        · replace hJ5 := Lib.hid hJ5
          clear r4
          gi_wp2
          go_roundw
          case rel => exact ⟨k1, rfl, by have := HQ.out; omega, hJ5.out⟩
          case measure => have := HQ.out; clear m1; simp [intOf]; omega
        · gi_wp2
          refine bodyPost_ret (results_none rfl _ _ _) rfl ?_
          exact ⟨⟨_, rfl⟩, .inr ⟨_, hJx⟩⟩
      · obtain rfl : k = n := by omega
        rw [List.take_of_length_le (Nat.le_of_eq hn.out)] at hJ
        replace hJ := Lib.hid hJ
        gi_wp2
        go_end0
        exact ⟨⟨_, rfl⟩, .inl ⟨_, rfl, hJ.out⟩⟩
end Go.Proofs.Ytkekdbnmeobgiaa

/- Layer 18 (due): what an iterator of Over's tells, gathered. -/
namespace Go.Proofs.Ytkekdbnmeobgiaa
set_option maxRecDepth 100000
set_option linter.unusedVariables false
set_option linter.unusedSimpArgs false
open Go.RowKit Go.Shelf

attribute [local go_sem] Oper.semAt_some

def encNu (x : Nat) : List Value := [.int .u64 (x : Int)]
abbrev OwnN (B : Nat) (w : World) (v : Value) (l : List Nat) : Prop := OwnE 23 1 encNu B w v l
def appNs (ty : TypeId) (args : Array Value) : Sem Value := Builtin.append_ #[22, 22] ty args
@[go_sem ↓ high] theorem app_Ns (ty : TypeId) (args : Array Value) : Builtin.append_ #[22, 22] ty args = appNs ty args := rfl
theorem OwnN.app {B : Nat} {w : World} {v : Value} {l : List Nat} (h : OwnN B w v l) (x : Nat) (hB : B ≤ w.heap.size) (hl : l.length ≤ 100000) (ty : TypeId) :
    ∃ a c w', (appNs ty #[v, .slice (some ⟨w.heap.size, 0, none⟩) 1 1]).run Try.prog (w.alloc (.cells #[.int .u64 (x : Int)] 23)) = .ok (.slice a (l.length + 1) c) w' ∧ OwnN B w' (.slice a (l.length + 1) c) (l ++ [x]) ∧
      Fr (fun k => v.ownBlock = some k) w w' ∧ w.heap.size < w'.heap.size := by
  obtain ⟨i0, hi, hz, hs, hb⟩ := info_parts Try.infoU64
  exact OwnE.app Try.underlying22 hi hz hs hb rfl (by decide) (by decide) (by decide) h x rfl (by intro u hu; simp only [encNu, List.mem_singleton] at hu; subst hu; rfl) hB hl

set_option maxRecDepth 100000 in
set_option maxHeartbeats 8000000 in
theorem over18_any {B gb : Nat} {w : World} {v : Value} {l : List Ro} (h : RowsB B gb v l w) (hl : l.length ≤ 100000) :
    Calls Try.prog 9 #[.func (.func 31) #[] #[.pointer (some ⟨gb, 0, none⟩)]] w fun e w' => ∃ a n c, e = .returned (.slice a n c) ∧ OwnN w.heap.size w' (.slice a n c) (l.map Ro.id) ∧ Fr F0 w w' := by
  have hmf : ∀ (fn : Fn) (first cap : Array Value) (w : World), (Instr.makeFunc fn first cap).run Try.prog w = .ok (.func fn first cap) w := fun _ _ _ _ => rfl
  have HC := Lib.hid (show ∀ (pre : List Ro) W, Fr F0 w W → RowsB B gb v l W from fun pre W f => h.fr f)
  have HQ := Lib.hid (over_seq B gb v l hl)
  have HL := Lib.hid hl
  clear h hl
  refine callsIn_wide (n := 6) |>.1 ?_
  refine callsIn_of_wp_marks Try.func9 rfl trivial ?_ rfl
  simp only [Try.ntmps9, List.size_toArray, List.length_cons, List.length_nil, Nat.reduceAdd, Nat.reduceSub, Array.replicate_succ, Array.replicate_zero, List.push_toArray, List.append_toArray, List.nil_append, List.cons_append]
  gi_upto_region 2 with fail
  refine wpIn_newE fun W1 N1 => ?_
  have r3 := N1.new
  have F := N1.fr
  clear N1
  obtain ⟨gs, hgs⟩ : ∃ g, g = w.heap.size := ⟨_, rfl⟩
  rw [← hgs] at r3 ⊢
  replace hgs := Lib.hid hgs
  have hsl := Lib.hid (Array.getElem?_eq_some_iff.1 r3).1
  have hwz := Lib.hid F.size
  gi_wp2
  have hOI : OwnFrom W1.heap.size (fun (pre : List Ro) W' => (∃ s, W'.heap[gs]? = some (.cells #[s] 22 (0, 0)) ∧ OwnN W1.heap.size W' s (pre.map Ro.id)) ∧ Below w.heap.size W1 W') :=
    OwnFrom.and (fun sx A D row h hgr hr => by
      obtain ⟨s, h1, h2⟩ := h
      exact ⟨s, own_csE h1 hgr hr, h2.grown hgr hr⟩) (own_below (β := List Ro) W1.heap.size w.heap.size W1 (Nat.le_refl _) hwz.out)
  have hFr := Lib.hid (show ∀ W', Below w.heap.size W1 W' → Fr F0 w W' from fun W' b => F.trans (Fr.of_below' b) fun i hi hk => by omega)
  refine range_lawO (gf := 31) (lb := #[.pointer (some ⟨gb, 0, none⟩)]) rfl (enters_of Try.func31 (by kernel_rfl) rfl) HQ.out (fun _ => rfl) (fun _ _ => trivial) (fun W o => trivial)
    (fun (pre : List Ro) W' => (∃ s, W'.heap[gs]? = some (.cells #[s] 22 (0, 0)) ∧ OwnN W1.heap.size W' s (pre.map Ro.id)) ∧ Below w.heap.size W1 W')
    (fun _ _ _ => False)
    hOI (fun cc => own_pure _ _)
    (fun pre W' h => HC.out pre _ (hFr.out _ h.2))
    ⟨⟨_, r3, OwnE.nil _ _⟩, Below.refl _ _⟩
    (fun pre x a' W' => ∃ s, a' = { tmps := #[.func (.func 31) #[] #[.pointer (some ⟨gb, 0, none⟩)], undef, .slice none 0 0, .pointer (some ⟨gs, 0, none⟩), .int .u64 (x.id : Int), .func (.func 31) #[] #[.pointer (some ⟨gb, 0, none⟩)], .int .u64 (x.id : Int), undef, undef, undef, undef, undef], defers := [] } ∧ W'.heap[gs]? = some (.cells #[s] 22 (0, 0)) ∧ OwnN W1.heap.size W' s (pre.map Ro.id) ∧ pre.length ≤ 100000)
    (fun pre x a' sx A D row h hgr hr => by
      obtain ⟨s, e, h3, ho, hl⟩ := h
      exact ⟨s, e, own_csE h3 hgr hr, ho.grown hgr hr, hl⟩) ?assign ?body ?done ?stop
  case assign =>
    intro l2 pre x W0 W' K hi0 f0 hn hK
    gi_wp2
    have hi4 := own_frI hOI hi0 f0
    refine hK _ _ (KeepsFrom.refl _ _) trivial hi4 ?_
    obtain ⟨s, q3, ho⟩ := hi4.1
    obtain ⟨k, hp, hx⟩ := hn
    exact ⟨s, rfl, q3, ho, by rw [hp, List.length_take]; have := HL.out; omega⟩
  case body =>
    rintro l2 pre x a' W' hi ⟨s, rfl, q3, ho, hl⟩
    have hW := hi.2.size
    obtain ⟨a5, c5, w5, happ, ho5, f5, hs5⟩ := ho.app x.id hW (by simpa using hl) 22
    have hgn : s.ownBlock ≠ some gs := fun e => by have := ho.blk gs e; have := hsl.out; omega
    have q35 := f5.keeps (fun e => hgn e) q3
    obtain ⟨n1, hn1⟩ : ∃ n1, (pre.map Ro.id).length + 1 = n1 := ⟨_, rfl⟩
    rw [hn1] at happ ho5
    gi_wp2
    have f6 : Fr (fun k => k = gs) w5 (w5.setCell ⟨gs, 0, none⟩ (.slice a5 n1 c5)) := (Fr.refl (fun k => k = gs) w5).setCell (p := ⟨gs, 0, none⟩) (fun _ => rfl) _
    have kp : KeepsFrom W1.heap.size W' w5 := ⟨f5.size, fun k o hk ho2 hc2 => f5.keeps (fun e => row_notE (row := some k) (B := W1.heap.size) (fun r e => by cases e; exact ⟨hk, o, ho2, hc2⟩) ho.own k e rfl) ho2⟩
    refine ⟨kp.trans ((KeepsOthers.setCell w5 ⟨gs, 0, none⟩ _).from _), trivial, ⟨.slice a5 n1 c5, ?_, ?_⟩, ?_⟩
    · rw [heap_setCell_at, q35]; rfl
    · rw [List.map_append]
      refine ho5.frS f6 (fun k hk e => ?_)
      have := ho5.blk k hk; have := hsl.out; omega
    · exact (hi.2.trans (f5.below (Nat.le_trans hwz.out hi.2.size) fun k hk e => by have := ho.blk k e; have := hwz.out; omega)).trans (f6.below (by have := hi.2.size; have := f5.size; have := hwz.out; omega) fun k hk e => by have := hgs.out; omega)
  case done =>
    rintro D ys W' hD hy hi hK
    have h9 := hOI.putObj (.deferred none) hi hD hK rfl
    obtain ⟨s, q3, ho⟩ := hi.1
    subst hy
    obtain ⟨a9, c9, e9, -⟩ := ho.is
    obtain ⟨n9, hn9⟩ : ∃ n, (ys.map Ro.id).length = n := ⟨_, rfl⟩
    rw [hn9] at e9
    clear hn9
    gi_wp2
    refine ⟨by simp, .inl ⟨_, _, rfl, run_takeDeferred hK, ?_⟩⟩
    refine ⟨_, results_tmp rfl _ _ _, ?_⟩
    obtain ⟨s', q3', ho'⟩ := h9.1
    have es : s' = s := by
      have hDg : D ≠ gs := fun e => by have := hsl.out; omega
      rw [World.putObj_heap_other (fun e => hDg e.symm), q3] at q3'
      simpa using q3'.symm
    subst es
    subst e9
    exact ⟨_, _, _, rfl, ho'.mono (by have := hwz.out; omega), hFr.out _ h9.2⟩
  case stop =>
    rintro D cc pre W' hD h hK
    exact h.elim
end Go.Proofs.Ytkekdbnmeobgiaa

/- Layer 18 (due): what an iterator of All's tells, gathered in two lists; one round. -/
namespace Go.Proofs.Ytkekdbnmeobgiaa
set_option maxRecDepth 100000
set_option linter.unusedVariables false
set_option linter.unusedSimpArgs false
open Go.RowKit

theorem Try.infoStr18 : (Try.prog.info? 9).map (fun i => (i.zero, i.size, i.bytes)) = some (some (.string ⟨#[]⟩), 1, 16) := by kernel_rfl
def encSt (x : ByteArray) : List Value := [.string x]
abbrev OwnSt (B : Nat) (w : World) (v : Value) (l : List ByteArray) : Prop := OwnE 9 1 encSt B w v l
def appSt (ty : TypeId) (args : Array Value) : Sem Value := Builtin.append_ #[53, 53] ty args
@[go_sem ↓ high] theorem app_St (ty : TypeId) (args : Array Value) : Builtin.append_ #[53, 53] ty args = appSt ty args := rfl
section
variable {α : Type} {e size : Nat} {enc : α → List Value}
/-- One more, that lies anywhere. -/
theorem OwnE.appS {P : Program} {st ty bytes : Nat} {i : TypeInfo} {z : Value} (hu : P.underlying st = some (.slice e)) (hi : P.info? e = some i) (hz : i.zero = some z) (hs : i.size = size) (hb : i.bytes = bytes) (hzs : z.cells.size = size) (h0 : 0 < size) (hby : bytes ≤ 1000)
    {B : Nat} {w : World} {v : Value} {l : List α} (h : OwnE e size enc B w v l) (x : α) (hx : (enc x).length = size) (h1 : ∀ u ∈ enc x, u.oneCell' = true) (hB : B ≤ w.heap.size) (hl : l.length ≤ 100000) (b : Nat) (hsl : Sl w size (some ⟨b, 0, none⟩) 1 1 (enc x)) :
    ∃ a c w', (Builtin.append_ #[st, st] ty #[v, .slice (some ⟨b, 0, none⟩) 1 1]).run P w = .ok (.slice a (l.length + 1) c) w' ∧ OwnE e size enc B w' (.slice a (l.length + 1) c) (l ++ [x]) ∧ Fr (fun k => v.ownBlock = some k) w w' := by
  have hbb : (l.length + 1) * bytes ≤ 140737488355328 := Nat.le_trans (Nat.mul_le_mul (show l.length + 1 ≤ 100001 by omega) hby) (by decide)
  obtain ⟨v', w', hrun, hown, hg, hnw⟩ := run_app (P := P) (w := w) st ty e i _ size bytes hu hi hz hs hb hzs h0 v l.length _ h.own (some ⟨b, 0, none⟩) 1 1 (enc x) hsl
    h1 (by unfold maxLen; omega) hbb
  obtain ⟨a, c, rfl⟩ := own_slice hown
  refine ⟨a, c, w', hrun, ⟨?_, fun k hk => ?_⟩, (Fr.refl _ w).grown hg fun k hk hl => hk⟩
  · rw [List.length_append, List.flatMap_append]
    simpa using hown
  · rcases hnw k hk with e | e
    · exact h.blk k e
    · omega
theorem sl_at {w : World} {size b : Nat} {t : TypeId} {fr : Nat × Nat} {xs : List Value} (hl : xs.length = size) (h : w.heap[b]? = some (.cells xs.toArray t fr)) : Sl w size (some ⟨b, 0, none⟩) 1 1 xs :=
  ⟨by omega, Nat.le_refl _, by unfold maxLen; omega, (fun e => by cases e), fun j u hj => ⟨_, _, rfl, by rw [cell_at, h, cellAt_cells, Nat.zero_add]; simpa using hj⟩⟩
end
theorem appN_at {B : Nat} {w : World} {v : Value} {l : List Nat} (h : OwnN B w v l) (x b : Nat) (hB : B ≤ w.heap.size) (hl : l.length ≤ 100000) (hb : w.heap[b]? = some (.cells #[.int .u64 (x : Int)] 23 (0, 0))) (ty : TypeId) :
    ∃ a c w', (appNs ty #[v, .slice (some ⟨b, 0, none⟩) 1 1]).run Try.prog w = .ok (.slice a (l.length + 1) c) w' ∧ OwnN B w' (.slice a (l.length + 1) c) (l ++ [x]) ∧ Fr (fun k => v.ownBlock = some k) w w' := by
  obtain ⟨i0, hi, hz, hs, hbs⟩ := info_parts Try.infoU64
  exact OwnE.appS Try.underlying22 hi hz hs hbs rfl (by decide) (by decide) h x rfl (by intro u hu; simp only [encNu, List.mem_singleton] at hu; subst hu; rfl) hB hl b (sl_at (xs := [.int .u64 (x : Int)]) rfl hb)
theorem appSt_at {B : Nat} {w : World} {v : Value} {l : List ByteArray} (h : OwnSt B w v l) (x : ByteArray) (b : Nat) (hB : B ≤ w.heap.size) (hl : l.length ≤ 100000) (hb : w.heap[b]? = some (.cells #[.string x] 9 (0, 0))) (ty : TypeId) :
    ∃ a c w', (appSt ty #[v, .slice (some ⟨b, 0, none⟩) 1 1]).run Try.prog w = .ok (.slice a (l.length + 1) c) w' ∧ OwnSt B w' (.slice a (l.length + 1) c) (l ++ [x]) ∧ Fr (fun k => v.ownBlock = some k) w w' := by
  obtain ⟨i0, hi, hz, hs, hbs⟩ := info_parts Try.infoStr18
  exact OwnE.appS Try.underlying53 hi hz hs hbs rfl (by decide) (by decide) h x rfl (by intro u hu; simp only [encSt, List.mem_singleton] at hu; subst hu; rfl) hB hl b (sl_at (xs := [.string x]) rfl hb)

/-- A list's block is of its elements' type. -/
theorem OwnE.kind {α : Type} {e size : Nat} {enc : α → List Value} {B : Nat} {w : World} {v : Value} {l : List α} (h : OwnE e size enc B w v l) {k : Nat} (hk : v.ownBlock = some k) : ∃ cur, w.heap[k]? = some (.cells cur e (0, 0)) := by
  rcases h.own.2 with ⟨rfl, _⟩ | ⟨g, cap, cur, rfl, _, hg, _⟩
  · cases hk
  · cases hk; exact ⟨cur, hg⟩
theorem OwnE.other {α : Type} {e size : Nat} {enc : α → List Value} {B : Nat} {w : World} {v : Value} {l : List α} (h : OwnE e size enc B w v l) {g : Nat} {cs : Array Value} {t : TypeId} {fr : Nat × Nat} (hg : w.heap[g]? = some (.cells cs t fr)) (ht : t ≠ e) : v.ownBlock ≠ some g := fun hk => by
  obtain ⟨cur, hc⟩ := h.kind hk
  rw [hg] at hc
  cases hc
  exact ht rfl
/-- The two lists as they are behind some. -/
structure Duo (B gI gX : Nat) (w : World) (sI sX : Value) (li : List Nat) (lx : List ByteArray) : Prop where
  atI : w.heap[gI]? = some (.cells #[sI] 22 (0, 0))
  atX : w.heap[gX]? = some (.cells #[sX] 53 (0, 0))
  own : OwnN B w sI li
  ownX : OwnSt B w sX lx
section
variable {B gI gX : Nat} {w : World} {sI sX : Value} {li : List Nat} {lx : List ByteArray}
theorem Duo.fr0 {w' : World} (h : Duo B gI gX w sI sX li lx) (f : Fr F0 w w') : Duo B gI gX w' sI sX li lx := ⟨f.keeps (fun x => x) h.atI, f.keeps (fun x => x) h.atX, h.own.fr0 f, h.ownX.fr0 f⟩
/-- Behind both appends, ahead of both stores. -/
structure DuoN (B gI gX : Nat) (w w' : World) (sI sX : Value) (li : List Nat) (lx : List ByteArray) (tI tX : Value) (mi : List Nat) (mx : List ByteArray) : Prop where
  atI : w'.heap[gI]? = some (.cells #[sI] 22 (0, 0))
  atX : w'.heap[gX]? = some (.cells #[sX] 53 (0, 0))
  own : OwnN B w' tI mi
  ownX : OwnSt B w' tX mx
  fr : Fr (fun k => sI.ownBlock = some k ∨ sX.ownBlock = some k) w w'
/-- Both appended, first the numbers: in a world that has both new elements, the second one's block maybe to come. -/
theorem Duo.both (h : Duo B gI gX w sI sX li lx) {W : World} (f : Fr F0 w W) (x : Nat) (y : ByteArray) (bI bX : Nat) (hB : B ≤ w.heap.size) (hl : li.length ≤ 100000) (hl2 : lx.length ≤ 100000)
    (rI : W.heap[bI]? = some (.cells #[.int .u64 (x : Int)] 23 (0, 0))) (rX : W.heap[bX]? = some (.cells #[.string y] 9 (0, 0))) (ty ty2 : TypeId) :
    ∃ aI cI aX cX w5 w7, (appNs ty #[sI, .slice (some ⟨bI, 0, none⟩) 1 1]).run Try.prog W = .ok (.slice aI (li.length + 1) cI) w5 ∧ (appSt ty2 #[sX, .slice (some ⟨bX, 0, none⟩) 1 1]).run Try.prog w5 = .ok (.slice aX (lx.length + 1) cX) w7 ∧ w5.heap[gX]? = some (.cells #[sX] 53 (0, 0)) ∧
      DuoN B gI gX w w7 sI sX li lx (.slice aI (li.length + 1) cI) (.slice aX (lx.length + 1) cX) (li ++ [x]) (lx ++ [y]) := by
  have d := h.fr0 f
  obtain ⟨aI, cI, w5, r5, o5, f5⟩ := appN_at d.own x bI (Nat.le_trans hB f.size) hl rI ty
  have x5 : OwnSt B w5 sX lx := d.ownX.frS f5 fun k hk e => by
    obtain ⟨cur, hc⟩ := d.ownX.kind hk
    exact d.own.other hc (by decide) e
  have rX5 := f5.keeps (d.own.other rX (by decide)) rX
  have aI5 := f5.keeps (d.own.other d.atI (by decide)) d.atI
  have aX5 := f5.keeps (d.own.other d.atX (by decide)) d.atX
  obtain ⟨aX, cX, w7, r7, o7, f7⟩ := appSt_at x5 y bX (Nat.le_trans hB (Nat.le_trans f.size f5.size)) hl2 rX5 ty2
  refine ⟨aI, cI, aX, cX, w5, w7, r5, r7, aX5, f7.keeps (x5.other aI5 (by decide)) aI5, f7.keeps (x5.other aX5 (by decide)) aX5, o5.frS f7 fun k hk e => ?_, o7, ?_⟩
  · obtain ⟨cur, hc⟩ := o5.kind hk
    exact x5.other hc (by decide) e
  · exact ((f.of0).trans' (f5.mono fun k _ e => .inl e)).trans' (f7.mono fun k _ e => .inr e)
/-- .. the second element made behind the first append. -/
theorem Duo.both2 (h : Duo B gI gX w sI sX li lx) {W : World} (f : Fr F0 w W) (x : Nat) (y : ByteArray) (bI : Nat) (hB : B ≤ w.heap.size) (hl : li.length ≤ 100000) (hl2 : lx.length ≤ 100000)
    (rI : W.heap[bI]? = some (.cells #[.int .u64 (x : Int)] 23 (0, 0))) (ty ty2 : TypeId) :
    ∃ aI cI aX cX w5 w7, (appNs ty #[sI, .slice (some ⟨bI, 0, none⟩) 1 1]).run Try.prog W = .ok (.slice aI (li.length + 1) cI) w5 ∧ (appSt ty2 #[sX, .slice (some ⟨w5.heap.size, 0, none⟩) 1 1]).run Try.prog (w5.alloc (.cells #[.string y] 9)) = .ok (.slice aX (lx.length + 1) cX) w7 ∧ w5.heap[gX]? = some (.cells #[sX] 53 (0, 0)) ∧
      DuoN B gI gX w w7 sI sX li lx (.slice aI (li.length + 1) cI) (.slice aX (lx.length + 1) cX) (li ++ [x]) (lx ++ [y]) := by
  have d := h.fr0 f
  obtain ⟨aI, cI, w5, r5, o5, f5⟩ := appN_at d.own x bI (Nat.le_trans hB f.size) hl rI ty
  have x5 : OwnSt B w5 sX lx := d.ownX.frS f5 fun k hk e => by
    obtain ⟨cur, hc⟩ := d.ownX.kind hk
    exact d.own.other hc (by decide) e
  have aI5 := f5.keeps (d.own.other d.atI (by decide)) d.atI
  have aX5 := f5.keeps (d.own.other d.atX (by decide)) d.atX
  have f6 : Fr F0 w5 (w5.alloc (.cells #[.string y] 9)) := (Fr.refl F0 w5).alloc _
  obtain ⟨aX, cX, w7, r7, o7, f7⟩ := appSt_at (x5.fr0 f6) y w5.heap.size (Nat.le_trans hB (Nat.le_trans f.size (Nat.le_trans f5.size f6.size))) hl2 (heap_alloc_new _ _) ty2
  refine ⟨aI, cI, aX, cX, w5, w7, r5, r7, aX5, f7.keeps ((x5.fr0 f6).other (keep_fr f6 aI5) (by decide)) (keep_fr f6 aI5), f7.keeps ((x5.fr0 f6).other (keep_fr f6 aX5) (by decide)) (keep_fr f6 aX5), (o5.fr0 f6).frS f7 fun k hk e => ?_, o7, ?_⟩
  · obtain ⟨cur, hc⟩ := (o5.fr0 f6).kind hk
    exact (x5.fr0 f6).other hc (by decide) e
  · exact (((f.of0).trans' (f5.mono fun k _ e => .inl e)).trans' f6.of0).trans' (f7.mono fun k _ e => .inr e)
end
end Go.Proofs.Ytkekdbnmeobgiaa

/- Layer 18 (due): all, walked. -/
namespace Go.Proofs.Ytkekdbnmeobgiaa
set_option maxRecDepth 100000
set_option linter.unusedVariables false
set_option linter.unusedSimpArgs false
open Go.RowKit Go.Shelf

attribute [local go_sem] Oper.semAt_some

theorem DuoN.store {B gI gX : Nat} {w w' : World} {sI sX tI tX : Value} {li mi : List Nat} {lx mx : List ByteArray} (h : DuoN B gI gX w w' sI sX li lx tI tX mi mx) :
    Duo B gI gX ((w'.setCell ⟨gI, 0, none⟩ tI).setCell ⟨gX, 0, none⟩ tX) tI tX mi mx ∧ Fr (fun k => k = gI ∨ k = gX) w' ((w'.setCell ⟨gI, 0, none⟩ tI).setCell ⟨gX, 0, none⟩ tX) := by
  have f : Fr (fun k => k = gI ∨ k = gX) w' ((w'.setCell ⟨gI, 0, none⟩ tI).setCell ⟨gX, 0, none⟩ tX) := ((Fr.refl (fun k => k = gI ∨ k = gX) w').setCell (p := ⟨gI, 0, none⟩) (fun _ => .inl rfl) _).setCell (p := ⟨gX, 0, none⟩) (fun _ => .inr rfl) _
  have hne : gI ≠ gX := fun e => by
    have h1 := h.atI
    have h2 := h.atX
    rw [e, h2] at h1
    simp only [Option.some.injEq, Obj.cells.injEq] at h1
    exact absurd h1.2.1 (by decide)
  have n1 : ∀ k, tI.ownBlock = some k → ¬ (k = gI ∨ k = gX) := fun k hk e => by
    rcases e with rfl | rfl
    · exact h.own.other h.atI (by decide) hk
    · exact h.own.other h.atX (by decide) hk
  have n2 : ∀ k, tX.ownBlock = some k → ¬ (k = gI ∨ k = gX) := fun k hk e => by
    rcases e with rfl | rfl
    · exact h.ownX.other h.atI (by decide) hk
    · exact h.ownX.other h.atX (by decide) hk
  refine ⟨⟨?_, ?_, h.own.frS f n1, h.ownX.frS f n2⟩, f⟩
  · rw [heap_setCell_ne' _ _ _ _ _ hne, heap_setCell_at, h.atI]; rfl
  · rw [heap_setCell_at, heap_setCell_ne' _ _ _ _ _ (fun e => hne e.symm), h.atX]; rfl

/-- What a round leaves. -/
theorem DuoN.post {w W1 W' : World} {gI gX id due : Nat} {y : ByteArray} {sI sX : Value} {pre : List Ro} (hi : (∃ sI sX, Duo W1.heap.size gI gX W' sI sX (pre.map Ro.id) (pre.map Ro.x)) ∧ Below w.heap.size W1 W') (d : Duo W1.heap.size gI gX W' sI sX (pre.map Ro.id) (pre.map Ro.x))
    (hsl : gI < W1.heap.size ∧ gX < W1.heap.size) (hwz : w.heap.size ≤ W1.heap.size) (hg : w.heap.size ≤ gI ∧ w.heap.size ≤ gX) :
    ∀ w7 tI tX, DuoN W1.heap.size gI gX W' w7 sI sX (pre.map Ro.id) (pre.map Ro.x) tI tX (pre.map Ro.id ++ [id]) (pre.map Ro.x ++ [y]) →
      KeepsFrom W1.heap.size W' ((w7.setCell ⟨gI, 0, none⟩ tI).setCell ⟨gX, 0, none⟩ tX) ∧ True ∧ (∃ sI sX, Duo W1.heap.size gI gX ((w7.setCell ⟨gI, 0, none⟩ tI).setCell ⟨gX, 0, none⟩ tX) sI sX ((pre ++ [(⟨id, due, y⟩ : Ro)]).map Ro.id) ((pre ++ [(⟨id, due, y⟩ : Ro)]).map Ro.x)) ∧ Below w.heap.size W1 ((w7.setCell ⟨gI, 0, none⟩ tI).setCell ⟨gX, 0, none⟩ tX) := by
  intro w7 tI tX h
  obtain ⟨d2, f2⟩ := h.store
  have hs := hi.2.size
  have hb : ∀ k, (sI.ownBlock = some k ∨ sX.ownBlock = some k) → W1.heap.size ≤ k := fun k hk => hk.elim (d.own.blk k) (d.ownX.blk k)
  refine ⟨⟨Nat.le_trans h.fr.size f2.size, fun k o hk ho hc => f2.keeps (fun e => by omega) (h.fr.keeps (fun e => ?_) ho)⟩, trivial, ⟨tI, tX, by rw [List.map_append, List.map_append]; exact d2⟩, (hi.2.trans (h.fr.below (Nat.le_trans hwz hs) fun k hk e => ?_)).trans (f2.below (Nat.le_trans hwz (Nat.le_trans hs h.fr.size)) fun k hk e => by omega)⟩
  · rcases e with e | e
    · obtain ⟨cur, hcur⟩ := d.own.kind e
      rw [ho] at hcur; cases hcur; cases hc
    · obtain ⟨cur, hcur⟩ := d.ownX.kind e
      rw [ho] at hcur; cases hcur; cases hc
  · have := hb k e; omega

set_option maxRecDepth 100000 in
set_option maxHeartbeats 16000000 in
theorem all18_any {B gb : Nat} {w : World} {v : Value} {l : List Ro} (h : RowsB B gb v l w) (hl : l.length ≤ 100000) :
    Calls Try.prog 20 #[.func (.func 34) #[] #[.pointer (some ⟨gb, 0, none⟩)]] w fun e w' => ∃ a n c a2 n2 c2, e = .returned (.tuple #[.slice a n c, .slice a2 n2 c2]) ∧ OwnN w.heap.size w' (.slice a n c) (l.map Ro.id) ∧ OwnSt w.heap.size w' (.slice a2 n2 c2) (l.map Ro.x) ∧ Fr F0 w w' := by
  have hmf : ∀ (fn : Fn) (first cap : Array Value) (w : World), (Instr.makeFunc fn first cap).run Try.prog w = .ok (.func fn first cap) w := fun _ _ _ _ => rfl
  have HC := Lib.hid (show ∀ (pre : List Ro) W, Fr F0 w W → RowsB B gb v l W from fun pre W f => h.fr f)
  have HQ := Lib.hid (all18_seq B gb v l hl)
  have HL := Lib.hid hl
  clear h hl
  refine callsIn_wide (n := 6) |>.1 ?_
  refine callsIn_of_wp_marks Try.func20 rfl trivial ?_ rfl
  simp only [Try.ntmps20, List.size_toArray, List.length_cons, List.length_nil, Nat.reduceAdd, Nat.reduceSub, Array.replicate_succ, Array.replicate_zero, List.push_toArray, List.append_toArray, List.nil_append, List.cons_append]
  gi_upto_region 2 with fail
  refine wpIn_newE fun Wa Na => ?_
  have r4 := Na.new
  have Fa := Na.fr
  clear Na
  obtain ⟨gI, hgI⟩ : ∃ g, w.heap.size = g := ⟨_, rfl⟩
  rw [hgI] at r4 ⊢
  gi_upto_region 3 with fail
  refine wpIn_newE fun W1 N1 => ?_
  have r5 := N1.new
  replace r4 := N1.old r4
  have F := Fa.trans' N1.fr
  have hgIX : Hid (w.heap.size ≤ gI ∧ w.heap.size ≤ Wa.heap.size) := Lib.hid ⟨Nat.le_of_eq hgI, Fa.size⟩
  clear N1 Fa hgI
  obtain ⟨gX, hgX⟩ : ∃ g, Wa.heap.size = g := ⟨_, rfl⟩
  rw [hgX] at r5 hgIX ⊢
  clear hgX
  have hsl := Lib.hid (And.intro (Array.getElem?_eq_some_iff.1 r4).1 (Array.getElem?_eq_some_iff.1 r5).1)
  have hwz := Lib.hid F.size
  gi_wp2
  have hOI : OwnFrom W1.heap.size (fun (pre : List Ro) W' => (∃ sI sX, Duo W1.heap.size gI gX W' sI sX (pre.map Ro.id) (pre.map Ro.x)) ∧ Below w.heap.size W1 W') :=
    OwnFrom.and (fun sx A D row h hgr hr => by
      obtain ⟨sI, sX, d⟩ := h
      exact ⟨sI, sX, own_csE d.atI hgr hr, own_csE d.atX hgr hr, d.own.grown hgr hr, d.ownX.grown hgr hr⟩) (own_below (β := List Ro) W1.heap.size w.heap.size W1 (Nat.le_refl _) hwz.out)
  have hFr := Lib.hid (show ∀ W', Below w.heap.size W1 W' → Fr F0 w W' from fun W' b => F.trans (Fr.of_below' b) fun i hi hk => by omega)
  refine range_lawO (gf := 34) (lb := #[.pointer (some ⟨gb, 0, none⟩)]) rfl (enters_of Try.func34 (by kernel_rfl) rfl) HQ.out (fun _ => rfl) (fun _ _ => trivial) (fun W o => trivial)
    (fun (pre : List Ro) W' => (∃ sI sX, Duo W1.heap.size gI gX W' sI sX (pre.map Ro.id) (pre.map Ro.x)) ∧ Below w.heap.size W1 W')
    (fun _ _ _ => False)
    hOI (fun cc => own_pure _ _)
    (fun pre W' h => HC.out pre _ (hFr.out _ h.2))
    ⟨⟨_, _, r4, r5, OwnE.nil _ _, OwnE.nil _ _⟩, Below.refl _ _⟩
    (fun pre x a' W' => a' = { tmps := #[.func (.func 34) #[] #[.pointer (some ⟨gb, 0, none⟩)], undef, .slice none 0 0, .slice none 0 0, .pointer (some ⟨gI, 0, none⟩), .pointer (some ⟨gX, 0, none⟩), .int .u64 (x.id : Int), .string x.x, .func (.func 34) #[] #[.pointer (some ⟨gb, 0, none⟩)], .int .u64 (x.id : Int), .string x.x, undef, undef, undef, undef, undef, undef, undef, undef, undef, undef], defers := [] } ∧ pre.length ≤ 100000)
    (fun pre x a' => own_pure _ _) ?assign ?body ?done ?stop
  case assign =>
    intro l2 pre x W0 W' K hi0 f0 hn hK
    gi_wp2
    have hi4 := own_frI hOI hi0 f0
    obtain ⟨k, hp, hx⟩ := hn
    exact hK _ _ (KeepsFrom.refl _ _) trivial hi4 ⟨rfl, by rw [hp, List.length_take]; have := HL.out; omega⟩
  case body =>
    rintro l2 pre x a' W' hi ⟨rfl, hl⟩
    have hW := hi.2.size
    obtain ⟨sI, sX, d⟩ := hi.1
    have hli : (pre.map Ro.id).length ≤ 100000 := by simpa using hl
    have hlx : (pre.map Ro.x).length ≤ 100000 := by simpa using hl
    obtain ⟨id, due, y⟩ := x
    have HPo := Lib.hid (DuoN.post (due := due) (id := id) (y := y) hi d hsl.out hwz.out hgIX.out)
    have fI : Fr F0 W' (W'.alloc (.cells #[.int .u64 (id : Int)] 23)) := (Fr.refl F0 W').alloc _
    have fX : Fr F0 W' (W'.alloc (.cells #[.string y] 9)) := (Fr.refl F0 W').alloc _
    have fA : Fr F0 W' ((W'.alloc (.cells #[.int .u64 (id : Int)] 23)).alloc (.cells #[.string y] 9)).drew := (fI.alloc _).drew
    have fB : Fr F0 W' ((W'.alloc (.cells #[.string y] 9)).alloc (.cells #[.int .u64 (id : Int)] 23)).drew := (fX.alloc _).drew
    have sA : W'.heap.size + 1 = (W'.alloc (.cells #[.int .u64 (id : Int)] 23)).heap.size := by simp
    have sB : W'.heap.size + 1 = (W'.alloc (.cells #[.string y] 9)).heap.size := by simp
    obtain ⟨aI, cI, aX, cX, wA5, wA7, rA1, rA2, qA, dA⟩ := d.both fA id y W'.heap.size (W'.heap.size + 1) hW hli hlx (show ((W'.alloc (.cells #[.int .u64 (id : Int)] 23)).alloc _).heap[_]? = _ from keep_alloc (heap_alloc_new _ _)) (by rw [sA]; exact heap_alloc_new _ _) 22 53
    obtain ⟨bI, eI, bX, eX, wB5, wB7, rB1, rB2, qB, dB⟩ := d.both fB id y (W'.heap.size + 1) W'.heap.size hW hli hlx (by rw [sB]; exact heap_alloc_new _ _) (show ((W'.alloc (.cells #[.string y] 9)).alloc _).heap[_]? = _ from keep_alloc (heap_alloc_new _ _)) 22 53
    obtain ⟨cI_, hI, cX_, hX, wC5, wC7, rC1, rC2, qC, dC⟩ := d.both2 fI.drew id y W'.heap.size hW hli hlx (show (W'.alloc (.cells #[.int .u64 (id : Int)] 23)).heap[_]? = _ from heap_alloc_new _ _) 22 53
    have qC2 := keep_alloc (o := .cells #[.string y] 9) qC
    have qI0 := d.atI
    have qX0 := d.atX
    have qI1 := keep_fr fI qI0
    have qX1 := keep_fr fI qX0
    have qI2 := keep_fr fX qI0
    have qX2 := keep_fr fX qX0
    have qI3 : ((W'.alloc (.cells #[.int .u64 (id : Int)] 23)).alloc (.cells #[.string y] 9)).heap[gI]? = _ := keep_alloc (keep_fr fI qI0)
    have qX3 : ((W'.alloc (.cells #[.int .u64 (id : Int)] 23)).alloc (.cells #[.string y] 9)).heap[gX]? = _ := keep_alloc (keep_fr fI qX0)
    have qI4 : ((W'.alloc (.cells #[.string y] 9)).alloc (.cells #[.int .u64 (id : Int)] 23)).heap[gI]? = _ := keep_alloc (keep_fr fX qI0)
    have qX4 : ((W'.alloc (.cells #[.string y] 9)).alloc (.cells #[.int .u64 (id : Int)] 23)).heap[gX]? = _ := keep_alloc (keep_fr fX qX0)
    have eA1 := dA.atI
    have eA2 := dA.atX
    have eB1 := dB.atI
    have eB2 := dB.atX
    have eC1 := dC.atI
    have eC2 := dC.atX
    have HA := Lib.hid dA
    have HB := Lib.hid dB
    have HCc := Lib.hid dC
    obtain ⟨nI, hnI⟩ : ∃ n, (pre.map Ro.id).length + 1 = n := ⟨_, rfl⟩
    obtain ⟨nX, hnX⟩ : ∃ n, (pre.map Ro.x).length + 1 = n := ⟨_, rfl⟩
    rw [hnI] at rA1 rB1 rC1 HA HB HCc
    rw [hnX] at rA2 rB2 rC2 HA HB HCc
    have hgne : Hid (gI ≠ gX) := Lib.hid fun e => by
      rw [e, qX0] at qI0
      simp only [Option.some.injEq, Obj.cells.injEq] at qI0
      exact absurd qI0.2.1 (by decide)
    have n1 : gI ≠ gX := hgne.out
    have n2 : gX ≠ gI := fun e => hgne.out e.symm
    clear sA sB fI fX fA fB dA dB dC hnI hnX hli hlx hl d hi hW HC HQ HL hFr hOI hmf r4 r5 F
    dsimp only
    gi_upto_region 6 with fail
    refine region_roundH (S := (fun _ => True)) (by kernel_rfl) (by kernel_rfl) (fun _ _ h => h) ?_ (fun hHeld => ?_)
    · ((try dsimp only) <;> (trivial))
    refine rtake 1 ?_
    refine rtake 5 ?_
    refine wpAnyH_ready (rs := [0, 2, 4, 6]) (by kernel_rfl) (by simp) ?_
    refine AllReadyH.cons (o := ⟨_, _, _, _, _, _⟩) rfl (fun K hK => ?_) (AllReadyH.cons (o := ⟨_, _, _, _, _, _⟩) rfl (fun K hK => ?_) (AllReadyH.cons (o := ⟨_, _, _, _, _, _⟩) rfl (fun K hK => ?_) (AllReadyH.cons (o := ⟨_, _, _, _, _, _⟩) rfl (fun K hK => ?_) AllReadyH.nil)))
    go_simp
    refine hK.out _ _ ?_ (fun hHeld => ?_)
    · ((try dsimp only) <;> (trivial))
    clear hK K
    try (simp only [Act.put, aST]; dsimp only [aS0, aS1])
    refine wpAnyH_ready (rs := [2, 4, 6]) (by kernel_rfl) (by simp) ?_
    refine AllReadyH.cons (o := ⟨_, _, _, _, _, _⟩) rfl (fun K hK => ?_) (AllReadyH.cons (o := ⟨_, _, _, _, _, _⟩) rfl (fun K hK => ?_) (AllReadyH.cons (o := ⟨_, _, _, _, _, _⟩) rfl (fun K hK => ?_) AllReadyH.nil))
    go_simp
    refine hK.out _ _ ?_ (fun hHeld => ?_)
    · ((try dsimp only) <;> (trivial))
    clear hK K
    try (simp only [Act.put, aST]; dsimp only [aS0, aS1])
    refine wpAnyH_ready (rs := [3, 4, 6]) (by kernel_rfl) (by simp) ?_
    refine AllReadyH.cons (o := ⟨_, _, _, _, _, _⟩) rfl (fun K hK => ?_) (AllReadyH.cons (o := ⟨_, _, _, _, _, _⟩) rfl (fun K hK => ?_) (AllReadyH.cons (o := ⟨_, _, _, _, _, _⟩) rfl (fun K hK => ?_) AllReadyH.nil))
    go_simp
    refine hK.out _ _ ?_ (fun hHeld => ?_)
    · ((try dsimp only) <;> (trivial))
    clear hK K
    try (simp only [Act.put, aST]; dsimp only [aS0, aS1])
    refine wpAnyH_ready (rs := [4, 6]) (by kernel_rfl) (by simp) ?_
    refine AllReadyH.cons (o := ⟨_, _, _, _, _, _⟩) rfl (fun K hK => ?_) (AllReadyH.cons (o := ⟨_, _, _, _, _, _⟩) rfl (fun K hK => ?_) AllReadyH.nil)
    go_simp
    refine hK.out _ _ ?_ (fun hHeld => ?_)
    · ((try dsimp only) <;> (trivial))
    clear hK K
    try (simp only [Act.put, aST]; dsimp only [aS0, aS1])
    refine rone 6 fun K hK => ?_
    go_simp
    refine hK.out _ _ ?_ (fun hHeld => ?_)
    · ((try dsimp only) <;> (trivial))
    clear hK K
    try (simp only [Act.put, aST]; dsimp only [aS0, aS1])
    refine rone 7 fun K hK => ?_
    go_simp
    refine hK.out _ _ ?_ (fun hHeld => ?_)
    · ((try dsimp only) <;> (trivial))
    clear hK K
    try (simp only [Act.put, aST]; dsimp only [aS0, aS1])
    refine rone 8 fun K hK => ?_
    go_simp
    refine hK.out _ _ ?_ (fun hHeld => ?_)
    · ((try dsimp only) <;> (trivial))
    clear hK K
    try (simp only [Act.put, aST]; dsimp only [aS0, aS1])
    refine rone 9 fun K hK => ?_
    go_simp
    refine hK.out _ _ ?_ (fun hHeld => ?_)
    · ((try dsimp only) <;> (trivial))
    clear hK K
    try (simp only [Act.put, aST]; dsimp only [aS0, aS1])
    refine rdone ?_
    rotate_left
    go_simp
    refine hK.out _ _ ?_ (fun hHeld => ?_)
    · ((try dsimp only) <;> (trivial))
    clear hK K
    try (simp only [Act.put, aST]; dsimp only [aS0, aS1])
    refine rone 4 fun K hK => ?_
    go_simp
    refine hK.out _ _ ?_ (fun hHeld => ?_)
    · ((try dsimp only) <;> (trivial))
    clear hK K
    try (simp only [Act.put, aST]; dsimp only [aS0, aS1])
    refine rone 7 fun K hK => ?_
    go_simp
    refine hK.out _ _ ?_ (fun hHeld => ?_)
    · ((try dsimp only) <;> (trivial))
    clear hK K
    try (simp only [Act.put, aST]; dsimp only [aS0, aS1])
    refine rone 8 fun K hK => ?_
    go_simp
    refine hK.out _ _ ?_ (fun hHeld => ?_)
    · ((try dsimp only) <;> (trivial))
    clear hK K
    try (simp only [Act.put, aST]; dsimp only [aS0, aS1])
    refine rone 9 fun K hK => ?_
    go_simp
    refine hK.out _ _ ?_ (fun hHeld => ?_)
    · ((try dsimp only) <;> (trivial))
    clear hK K
    try (simp only [Act.put, aST]; dsimp only [aS0, aS1])
    refine rdone ?_
    rotate_left
    go_simp
    refine hK.out _ _ ?_ (fun hHeld => ?_)
    · ((try dsimp only) <;> (trivial))
    clear hK K
    try (simp only [Act.put, aST]; dsimp only [aS0, aS1])
    refine wpAnyH_ready (rs := [3, 6]) (by kernel_rfl) (by simp) ?_
    refine AllReadyH.cons (o := ⟨_, _, _, _, _, _⟩) rfl (fun K hK => ?_) (AllReadyH.cons (o := ⟨_, _, _, _, _, _⟩) rfl (fun K hK => ?_) AllReadyH.nil)
    go_simp
    refine hK.out _ _ ?_ (fun hHeld => ?_)
    · ((try dsimp only) <;> (trivial))
    clear hK K
    try (simp only [Act.put, aST]; dsimp only [aS0, aS1])
    refine rone 6 fun K hK => ?_
    go_simp
    refine hK.out _ _ ?_ (fun hHeld => ?_)
    · ((try dsimp only) <;> (trivial))
    clear hK K
    try (simp only [Act.put, aST]; dsimp only [aS0, aS1])
    refine rone 7 fun K hK => ?_
    go_simp
    refine hK.out _ _ ?_ (fun hHeld => ?_)
    · ((try dsimp only) <;> (trivial))
    clear hK K
    try (simp only [Act.put, aST]; dsimp only [aS0, aS1])
    refine rone 8 fun K hK => ?_
    go_simp
    refine hK.out _ _ ?_ (fun hHeld => ?_)
    · ((try dsimp only) <;> (trivial))
    clear hK K
    try (simp only [Act.put, aST]; dsimp only [aS0, aS1])
    refine rone 9 fun K hK => ?_
    go_simp
    refine hK.out _ _ ?_ (fun hHeld => ?_)
    · ((try dsimp only) <;> (trivial))
    clear hK K
    try (simp only [Act.put, aST]; dsimp only [aS0, aS1])
    refine rdone ?_
    rotate_left
    go_simp
    refine hK.out _ _ ?_ (fun hHeld => ?_)
    · ((try dsimp only) <;> (trivial))
    clear hK K
    try (simp only [Act.put, aST]; dsimp only [aS0, aS1])
    refine rone 3 fun K hK => ?_
    go_simp
    refine hK.out _ _ ?_ (fun hHeld => ?_)
    · ((try dsimp only) <;> (trivial))
    clear hK K
    try (simp only [Act.put, aST]; dsimp only [aS0, aS1])
    refine rone 7 fun K hK => ?_
    go_simp
    refine hK.out _ _ ?_ (fun hHeld => ?_)
    · ((try dsimp only) <;> (trivial))
    clear hK K
    try (simp only [Act.put, aST]; dsimp only [aS0, aS1])
    refine rone 8 fun K hK => ?_
    go_simp
    refine hK.out _ _ ?_ (fun hHeld => ?_)
    · ((try dsimp only) <;> (trivial))
    clear hK K
    try (simp only [Act.put, aST]; dsimp only [aS0, aS1])
    refine rone 9 fun K hK => ?_
    go_simp
    refine hK.out _ _ ?_ (fun hHeld => ?_)
    · ((try dsimp only) <;> (trivial))
    clear hK K
    try (simp only [Act.put, aST]; dsimp only [aS0, aS1])
    refine rdone ?_
    rotate_left
    go_simp
    refine hK.out _ _ ?_ (fun hHeld => ?_)
    · ((try dsimp only) <;> (trivial))
    clear hK K
    try (simp only [Act.put, aST]; dsimp only [aS0, aS1])
    refine wpAnyH_ready (rs := [3, 4]) (by kernel_rfl) (by simp) ?_
    refine AllReadyH.cons (o := ⟨_, _, _, _, _, _⟩) rfl (fun K hK => ?_) (AllReadyH.cons (o := ⟨_, _, _, _, _, _⟩) rfl (fun K hK => ?_) AllReadyH.nil)
    go_simp
    refine hK.out _ _ ?_ (fun hHeld => ?_)
    · ((try dsimp only) <;> (trivial))
    clear hK K
    try (simp only [Act.put, aST]; dsimp only [aS0, aS1])
    refine rone 4 fun K hK => ?_
    go_simp
    refine hK.out _ _ ?_ (fun hHeld => ?_)
    · ((try dsimp only) <;> (trivial))
    clear hK K
    try (simp only [Act.put, aST]; dsimp only [aS0, aS1])
    refine rone 7 fun K hK => ?_
    go_simp
    refine hK.out _ _ ?_ (fun hHeld => ?_)
    · ((try dsimp only) <;> (trivial))
    clear hK K
    try (simp only [Act.put, aST]; dsimp only [aS0, aS1])
    refine rone 8 fun K hK => ?_
    go_simp
    refine hK.out _ _ ?_ (fun hHeld => ?_)
    · ((try dsimp only) <;> (trivial))
    clear hK K
    try (simp only [Act.put, aST]; dsimp only [aS0, aS1])
    refine rone 9 fun K hK => ?_
    go_simp
    refine hK.out _ _ ?_ (fun hHeld => ?_)
    · ((try dsimp only) <;> (trivial))
    clear hK K
    try (simp only [Act.put, aST]; dsimp only [aS0, aS1])
    refine rdone ?_
    rotate_left
    go_simp
    refine hK.out _ _ ?_ (fun hHeld => ?_)
    · ((try dsimp only) <;> (trivial))
    clear hK K
    try (simp only [Act.put, aST]; dsimp only [aS0, aS1])
    refine rone 3 fun K hK => ?_
    go_simp
    refine hK.out _ _ ?_ (fun hHeld => ?_)
    · ((try dsimp only) <;> (trivial))
    clear hK K
    try (simp only [Act.put, aST]; dsimp only [aS0, aS1])
    refine rone 7 fun K hK => ?_
    go_simp
    refine hK.out _ _ ?_ (fun hHeld => ?_)
    · ((try dsimp only) <;> (trivial))
    clear hK K
    try (simp only [Act.put, aST]; dsimp only [aS0, aS1])
    refine rone 8 fun K hK => ?_
    go_simp
    refine hK.out _ _ ?_ (fun hHeld => ?_)
    · ((try dsimp only) <;> (trivial))
    clear hK K
    try (simp only [Act.put, aST]; dsimp only [aS0, aS1])
    refine rone 9 fun K hK => ?_
    go_simp
    refine hK.out _ _ ?_ (fun hHeld => ?_)
    · ((try dsimp only) <;> (trivial))
    clear hK K
    try (simp only [Act.put, aST]; dsimp only [aS0, aS1])
    refine rdone ?_
    rotate_left
    go_simp
    refine hK.out _ _ ?_ (fun hHeld => ?_)
    · ((try dsimp only) <;> (trivial))
    clear hK K
    try (simp only [Act.put, aST]; dsimp only [aS0, aS1])
    refine wpAnyH_ready (rs := [2, 6]) (by kernel_rfl) (by simp) ?_
    refine AllReadyH.cons (o := ⟨_, _, _, _, _, _⟩) rfl (fun K hK => ?_) (AllReadyH.cons (o := ⟨_, _, _, _, _, _⟩) rfl (fun K hK => ?_) AllReadyH.nil)
    go_simp
    refine hK.out _ _ ?_ (fun hHeld => ?_)
    · ((try dsimp only) <;> (trivial))
    clear hK K
    try (simp only [Act.put, aST]; dsimp only [aS0, aS1])
    refine wpAnyH_ready (rs := [3, 6]) (by kernel_rfl) (by simp) ?_
    refine AllReadyH.cons (o := ⟨_, _, _, _, _, _⟩) rfl (fun K hK => ?_) (AllReadyH.cons (o := ⟨_, _, _, _, _, _⟩) rfl (fun K hK => ?_) AllReadyH.nil)
    go_simp
    refine hK.out _ _ ?_ (fun hHeld => ?_)
    · ((try dsimp only) <;> (trivial))
    clear hK K
    try (simp only [Act.put, aST]; dsimp only [aS0, aS1])
    refine rone 6 fun K hK => ?_
    go_simp
    refine hK.out _ _ ?_ (fun hHeld => ?_)
    · ((try dsimp only) <;> (trivial))
    clear hK K
    try (simp only [Act.put, aST]; dsimp only [aS0, aS1])
    refine rone 7 fun K hK => ?_
    go_simp
    refine hK.out _ _ ?_ (fun hHeld => ?_)
    · ((try dsimp only) <;> (trivial))
    clear hK K
    try (simp only [Act.put, aST]; dsimp only [aS0, aS1])
    refine rone 8 fun K hK => ?_
    go_simp
    refine hK.out _ _ ?_ (fun hHeld => ?_)
    · ((try dsimp only) <;> (trivial))
    clear hK K
    try (simp only [Act.put, aST]; dsimp only [aS0, aS1])
    refine rone 9 fun K hK => ?_
    go_simp
    refine hK.out _ _ ?_ (fun hHeld => ?_)
    · ((try dsimp only) <;> (trivial))
    clear hK K
    try (simp only [Act.put, aST]; dsimp only [aS0, aS1])
    refine rdone ?_
    rotate_left
    go_simp
    refine hK.out _ _ ?_ (fun hHeld => ?_)
    · ((try dsimp only) <;> (trivial))
    clear hK K
    try (simp only [Act.put, aST]; dsimp only [aS0, aS1])
    refine rone 3 fun K hK => ?_
    go_simp
    refine hK.out _ _ ?_ (fun hHeld => ?_)
    · ((try dsimp only) <;> (trivial))
    clear hK K
    try (simp only [Act.put, aST]; dsimp only [aS0, aS1])
    refine rone 7 fun K hK => ?_
    go_simp
    refine hK.out _ _ ?_ (fun hHeld => ?_)
    · ((try dsimp only) <;> (trivial))
    clear hK K
    try (simp only [Act.put, aST]; dsimp only [aS0, aS1])
    refine rone 8 fun K hK => ?_
    go_simp
    refine hK.out _ _ ?_ (fun hHeld => ?_)
    · ((try dsimp only) <;> (trivial))
    clear hK K
    try (simp only [Act.put, aST]; dsimp only [aS0, aS1])
    refine rone 9 fun K hK => ?_
    go_simp
    refine hK.out _ _ ?_ (fun hHeld => ?_)
    · ((try dsimp only) <;> (trivial))
    clear hK K
    try (simp only [Act.put, aST]; dsimp only [aS0, aS1])
    refine rdone ?_
    rotate_left
    go_simp
    refine hK.out _ _ ?_ (fun hHeld => ?_)
    · ((try dsimp only) <;> (trivial))
    clear hK K
    try (simp only [Act.put, aST]; dsimp only [aS0, aS1])
    refine rone 2 fun K hK => ?_
    go_simp
    refine hK.out _ _ ?_ (fun hHeld => ?_)
    · ((try dsimp only) <;> (trivial))
    clear hK K
    try (simp only [Act.put, aST]; dsimp only [aS0, aS1])
    refine rone 3 fun K hK => ?_
    go_simp
    refine hK.out _ _ ?_ (fun hHeld => ?_)
    · ((try dsimp only) <;> (trivial))
    clear hK K
    try (simp only [Act.put, aST]; dsimp only [aS0, aS1])
    refine rone 7 fun K hK => ?_
    go_simp
    refine hK.out _ _ ?_ (fun hHeld => ?_)
    · ((try dsimp only) <;> (trivial))
    clear hK K
    try (simp only [Act.put, aST]; dsimp only [aS0, aS1])
    refine rone 8 fun K hK => ?_
    go_simp
    refine hK.out _ _ ?_ (fun hHeld => ?_)
    · ((try dsimp only) <;> (trivial))
    clear hK K
    try (simp only [Act.put, aST]; dsimp only [aS0, aS1])
    refine rone 9 fun K hK => ?_
    go_simp
    refine hK.out _ _ ?_ (fun hHeld => ?_)
    · ((try dsimp only) <;> (trivial))
    clear hK K
    try (simp only [Act.put, aST]; dsimp only [aS0, aS1])
    refine rdone ?_
    rotate_left
    go_simp
    refine hK.out _ _ ?_ (fun hHeld => ?_)
    · ((try dsimp only) <;> (trivial))
    clear hK K
    try (simp only [Act.put, aST]; dsimp only [aS0, aS1])
    refine wpAnyH_ready (rs := [2, 4]) (by kernel_rfl) (by simp) ?_
    refine AllReadyH.cons (o := ⟨_, _, _, _, _, _⟩) rfl (fun K hK => ?_) (AllReadyH.cons (o := ⟨_, _, _, _, _, _⟩) rfl (fun K hK => ?_) AllReadyH.nil)
    go_simp
    refine hK.out _ _ ?_ (fun hHeld => ?_)
    · ((try dsimp only) <;> (trivial))
    clear hK K
    try (simp only [Act.put, aST]; dsimp only [aS0, aS1])
    refine wpAnyH_ready (rs := [3, 4]) (by kernel_rfl) (by simp) ?_
    refine AllReadyH.cons (o := ⟨_, _, _, _, _, _⟩) rfl (fun K hK => ?_) (AllReadyH.cons (o := ⟨_, _, _, _, _, _⟩) rfl (fun K hK => ?_) AllReadyH.nil)
    go_simp
    refine hK.out _ _ ?_ (fun hHeld => ?_)
    · ((try dsimp only) <;> (trivial))
    clear hK K
    try (simp only [Act.put, aST]; dsimp only [aS0, aS1])
    refine rone 4 fun K hK => ?_
    go_simp
    refine hK.out _ _ ?_ (fun hHeld => ?_)
    · ((try dsimp only) <;> (trivial))
    clear hK K
    try (simp only [Act.put, aST]; dsimp only [aS0, aS1])
    refine rone 7 fun K hK => ?_
    go_simp
    refine hK.out _ _ ?_ (fun hHeld => ?_)
    · ((try dsimp only) <;> (trivial))
    clear hK K
    try (simp only [Act.put, aST]; dsimp only [aS0, aS1])
    refine rone 8 fun K hK => ?_
    go_simp
    refine hK.out _ _ ?_ (fun hHeld => ?_)
    · ((try dsimp only) <;> (trivial))
    clear hK K
    try (simp only [Act.put, aST]; dsimp only [aS0, aS1])
    refine rone 9 fun K hK => ?_
    go_simp
    refine hK.out _ _ ?_ (fun hHeld => ?_)
    · ((try dsimp only) <;> (trivial))
    clear hK K
    try (simp only [Act.put, aST]; dsimp only [aS0, aS1])
    refine rdone ?_
    rotate_left
    go_simp
    refine hK.out _ _ ?_ (fun hHeld => ?_)
    · ((try dsimp only) <;> (trivial))
    clear hK K
    try (simp only [Act.put, aST]; dsimp only [aS0, aS1])
    refine rone 3 fun K hK => ?_
    go_simp
    refine hK.out _ _ ?_ (fun hHeld => ?_)
    · ((try dsimp only) <;> (trivial))
    clear hK K
    try (simp only [Act.put, aST]; dsimp only [aS0, aS1])
    refine rone 7 fun K hK => ?_
    go_simp
    refine hK.out _ _ ?_ (fun hHeld => ?_)
    · ((try dsimp only) <;> (trivial))
    clear hK K
    try (simp only [Act.put, aST]; dsimp only [aS0, aS1])
    refine rone 8 fun K hK => ?_
    go_simp
    refine hK.out _ _ ?_ (fun hHeld => ?_)
    · ((try dsimp only) <;> (trivial))
    clear hK K
    try (simp only [Act.put, aST]; dsimp only [aS0, aS1])
    refine rone 9 fun K hK => ?_
    go_simp
    refine hK.out _ _ ?_ (fun hHeld => ?_)
    · ((try dsimp only) <;> (trivial))
    clear hK K
    try (simp only [Act.put, aST]; dsimp only [aS0, aS1])
    refine rdone ?_
    rotate_left
    go_simp
    refine hK.out _ _ ?_ (fun hHeld => ?_)
    · ((try dsimp only) <;> (trivial))
    clear hK K
    try (simp only [Act.put, aST]; dsimp only [aS0, aS1])
    refine rone 2 fun K hK => ?_
    go_simp
    refine hK.out _ _ ?_ (fun hHeld => ?_)
    · ((try dsimp only) <;> (trivial))
    clear hK K
    try (simp only [Act.put, aST]; dsimp only [aS0, aS1])
    refine rone 3 fun K hK => ?_
    go_simp
    refine hK.out _ _ ?_ (fun hHeld => ?_)
    · ((try dsimp only) <;> (trivial))
    clear hK K
    try (simp only [Act.put, aST]; dsimp only [aS0, aS1])
    refine rone 7 fun K hK => ?_
    go_simp
    refine hK.out _ _ ?_ (fun hHeld => ?_)
    · ((try dsimp only) <;> (trivial))
    clear hK K
    try (simp only [Act.put, aST]; dsimp only [aS0, aS1])
    refine rone 8 fun K hK => ?_
    go_simp
    refine hK.out _ _ ?_ (fun hHeld => ?_)
    · ((try dsimp only) <;> (trivial))
    clear hK K
    try (simp only [Act.put, aST]; dsimp only [aS0, aS1])
    refine rone 9 fun K hK => ?_
    go_simp
    refine hK.out _ _ ?_ (fun hHeld => ?_)
    · ((try dsimp only) <;> (trivial))
    clear hK K
    try (simp only [Act.put, aST]; dsimp only [aS0, aS1])
    refine rdone ?_
    rotate_left
    go_simp
    refine hK.out _ _ ?_ (fun hHeld => ?_)
    · ((try dsimp only) <;> (trivial))
    clear hK K
    try (simp only [Act.put, aST]; dsimp only [aS0, aS1])
    refine wpAnyH_ready (rs := [0, 4, 6]) (by kernel_rfl) (by simp) ?_
    refine AllReadyH.cons (o := ⟨_, _, _, _, _, _⟩) rfl (fun K hK => ?_) (AllReadyH.cons (o := ⟨_, _, _, _, _, _⟩) rfl (fun K hK => ?_) (AllReadyH.cons (o := ⟨_, _, _, _, _, _⟩) rfl (fun K hK => ?_) AllReadyH.nil))
    go_simp
    refine hK.out _ _ ?_ (fun hHeld => ?_)
    · ((try dsimp only) <;> (trivial))
    clear hK K
    try (simp only [Act.put, aST]; dsimp only [aS0, aS1])
    refine wpAnyH_ready (rs := [3, 4, 6]) (by kernel_rfl) (by simp) ?_
    refine AllReadyH.cons (o := ⟨_, _, _, _, _, _⟩) rfl (fun K hK => ?_) (AllReadyH.cons (o := ⟨_, _, _, _, _, _⟩) rfl (fun K hK => ?_) (AllReadyH.cons (o := ⟨_, _, _, _, _, _⟩) rfl (fun K hK => ?_) AllReadyH.nil))
    go_simp
    refine hK.out _ _ ?_ (fun hHeld => ?_)
    · ((try dsimp only) <;> (trivial))
    clear hK K
    try (simp only [Act.put, aST]; dsimp only [aS0, aS1])
    refine wpAnyH_ready (rs := [4, 6]) (by kernel_rfl) (by simp) ?_
    refine AllReadyH.cons (o := ⟨_, _, _, _, _, _⟩) rfl (fun K hK => ?_) (AllReadyH.cons (o := ⟨_, _, _, _, _, _⟩) rfl (fun K hK => ?_) AllReadyH.nil)
    go_simp
    refine hK.out _ _ ?_ (fun hHeld => ?_)
    · ((try dsimp only) <;> (trivial))
    clear hK K
    try (simp only [Act.put, aST]; dsimp only [aS0, aS1])
    refine rone 6 fun K hK => ?_
    go_simp
    refine hK.out _ _ ?_ (fun hHeld => ?_)
    · ((try dsimp only) <;> (trivial))
    clear hK K
    try (simp only [Act.put, aST]; dsimp only [aS0, aS1])
    refine rone 7 fun K hK => ?_
    go_simp
    refine hK.out _ _ ?_ (fun hHeld => ?_)
    · ((try dsimp only) <;> (trivial))
    clear hK K
    try (simp only [Act.put, aST]; dsimp only [aS0, aS1])
    refine rone 8 fun K hK => ?_
    go_simp
    refine hK.out _ _ ?_ (fun hHeld => ?_)
    · ((try dsimp only) <;> (trivial))
    clear hK K
    try (simp only [Act.put, aST]; dsimp only [aS0, aS1])
    refine rone 9 fun K hK => ?_
    go_simp
    refine hK.out _ _ ?_ (fun hHeld => ?_)
    · ((try dsimp only) <;> (trivial))
    clear hK K
    try (simp only [Act.put, aST]; dsimp only [aS0, aS1])
    refine rdone ?_
    rotate_left
    go_simp
    refine hK.out _ _ ?_ (fun hHeld => ?_)
    · ((try dsimp only) <;> (trivial))
    clear hK K
    try (simp only [Act.put, aST]; dsimp only [aS0, aS1])
    refine rone 4 fun K hK => ?_
    go_simp
    refine hK.out _ _ ?_ (fun hHeld => ?_)
    · ((try dsimp only) <;> (trivial))
    clear hK K
    try (simp only [Act.put, aST]; dsimp only [aS0, aS1])
    refine rone 7 fun K hK => ?_
    go_simp
    refine hK.out _ _ ?_ (fun hHeld => ?_)
    · ((try dsimp only) <;> (trivial))
    clear hK K
    try (simp only [Act.put, aST]; dsimp only [aS0, aS1])
    refine rone 8 fun K hK => ?_
    go_simp
    refine hK.out _ _ ?_ (fun hHeld => ?_)
    · ((try dsimp only) <;> (trivial))
    clear hK K
    try (simp only [Act.put, aST]; dsimp only [aS0, aS1])
    refine rone 9 fun K hK => ?_
    go_simp
    refine hK.out _ _ ?_ (fun hHeld => ?_)
    · ((try dsimp only) <;> (trivial))
    clear hK K
    try (simp only [Act.put, aST]; dsimp only [aS0, aS1])
    refine rdone ?_
    rotate_left
    go_simp
    refine hK.out _ _ ?_ (fun hHeld => ?_)
    · ((try dsimp only) <;> (trivial))
    clear hK K
    try (simp only [Act.put, aST]; dsimp only [aS0, aS1])
    refine wpAnyH_ready (rs := [3, 6]) (by kernel_rfl) (by simp) ?_
    refine AllReadyH.cons (o := ⟨_, _, _, _, _, _⟩) rfl (fun K hK => ?_) (AllReadyH.cons (o := ⟨_, _, _, _, _, _⟩) rfl (fun K hK => ?_) AllReadyH.nil)
    go_simp
    refine hK.out _ _ ?_ (fun hHeld => ?_)
    · ((try dsimp only) <;> (trivial))
    clear hK K
    try (simp only [Act.put, aST]; dsimp only [aS0, aS1])
    refine rone 6 fun K hK => ?_
    go_simp
    refine hK.out _ _ ?_ (fun hHeld => ?_)
    · ((try dsimp only) <;> (trivial))
    clear hK K
    try (simp only [Act.put, aST]; dsimp only [aS0, aS1])
    refine rone 7 fun K hK => ?_
    go_simp
    refine hK.out _ _ ?_ (fun hHeld => ?_)
    · ((try dsimp only) <;> (trivial))
    clear hK K
    try (simp only [Act.put, aST]; dsimp only [aS0, aS1])
    refine rone 8 fun K hK => ?_
    go_simp
    refine hK.out _ _ ?_ (fun hHeld => ?_)
    · ((try dsimp only) <;> (trivial))
    clear hK K
    try (simp only [Act.put, aST]; dsimp only [aS0, aS1])
    refine rone 9 fun K hK => ?_
    go_simp
    refine hK.out _ _ ?_ (fun hHeld => ?_)
    · ((try dsimp only) <;> (trivial))
    clear hK K
    try (simp only [Act.put, aST]; dsimp only [aS0, aS1])
    refine rdone ?_
    rotate_left
    go_simp
    refine hK.out _ _ ?_ (fun hHeld => ?_)
    · ((try dsimp only) <;> (trivial))
    clear hK K
    try (simp only [Act.put, aST]; dsimp only [aS0, aS1])
    refine rone 3 fun K hK => ?_
    go_simp
    refine hK.out _ _ ?_ (fun hHeld => ?_)
    · ((try dsimp only) <;> (trivial))
    clear hK K
    try (simp only [Act.put, aST]; dsimp only [aS0, aS1])
    refine rone 7 fun K hK => ?_
    go_simp
    refine hK.out _ _ ?_ (fun hHeld => ?_)
    · ((try dsimp only) <;> (trivial))
    clear hK K
    try (simp only [Act.put, aST]; dsimp only [aS0, aS1])
    refine rone 8 fun K hK => ?_
    go_simp
    refine hK.out _ _ ?_ (fun hHeld => ?_)
    · ((try dsimp only) <;> (trivial))
    clear hK K
    try (simp only [Act.put, aST]; dsimp only [aS0, aS1])
    refine rone 9 fun K hK => ?_
    go_simp
    refine hK.out _ _ ?_ (fun hHeld => ?_)
    · ((try dsimp only) <;> (trivial))
    clear hK K
    try (simp only [Act.put, aST]; dsimp only [aS0, aS1])
    refine rdone ?_
    rotate_left
    go_simp
    refine hK.out _ _ ?_ (fun hHeld => ?_)
    · ((try dsimp only) <;> (trivial))
    clear hK K
    try (simp only [Act.put, aST]; dsimp only [aS0, aS1])
    refine wpAnyH_ready (rs := [3, 4]) (by kernel_rfl) (by simp) ?_
    refine AllReadyH.cons (o := ⟨_, _, _, _, _, _⟩) rfl (fun K hK => ?_) (AllReadyH.cons (o := ⟨_, _, _, _, _, _⟩) rfl (fun K hK => ?_) AllReadyH.nil)
    go_simp
    refine hK.out _ _ ?_ (fun hHeld => ?_)
    · ((try dsimp only) <;> (trivial))
    clear hK K
    try (simp only [Act.put, aST]; dsimp only [aS0, aS1])
    refine rone 4 fun K hK => ?_
    go_simp
    refine hK.out _ _ ?_ (fun hHeld => ?_)
    · ((try dsimp only) <;> (trivial))
    clear hK K
    try (simp only [Act.put, aST]; dsimp only [aS0, aS1])
    refine rone 7 fun K hK => ?_
    go_simp
    refine hK.out _ _ ?_ (fun hHeld => ?_)
    · ((try dsimp only) <;> (trivial))
    clear hK K
    try (simp only [Act.put, aST]; dsimp only [aS0, aS1])
    refine rone 8 fun K hK => ?_
    go_simp
    refine hK.out _ _ ?_ (fun hHeld => ?_)
    · ((try dsimp only) <;> (trivial))
    clear hK K
    try (simp only [Act.put, aST]; dsimp only [aS0, aS1])
    refine rone 9 fun K hK => ?_
    go_simp
    refine hK.out _ _ ?_ (fun hHeld => ?_)
    · ((try dsimp only) <;> (trivial))
    clear hK K
    try (simp only [Act.put, aST]; dsimp only [aS0, aS1])
    refine rdone ?_
    rotate_left
    go_simp
    refine hK.out _ _ ?_ (fun hHeld => ?_)
    · ((try dsimp only) <;> (trivial))
    clear hK K
    try (simp only [Act.put, aST]; dsimp only [aS0, aS1])
    refine rone 3 fun K hK => ?_
    go_simp
    refine hK.out _ _ ?_ (fun hHeld => ?_)
    · ((try dsimp only) <;> (trivial))
    clear hK K
    try (simp only [Act.put, aST]; dsimp only [aS0, aS1])
    refine rone 7 fun K hK => ?_
    go_simp
    refine hK.out _ _ ?_ (fun hHeld => ?_)
    · ((try dsimp only) <;> (trivial))
    clear hK K
    try (simp only [Act.put, aST]; dsimp only [aS0, aS1])
    refine rone 8 fun K hK => ?_
    go_simp
    refine hK.out _ _ ?_ (fun hHeld => ?_)
    · ((try dsimp only) <;> (trivial))
    clear hK K
    try (simp only [Act.put, aST]; dsimp only [aS0, aS1])
    refine rone 9 fun K hK => ?_
    go_simp
    refine hK.out _ _ ?_ (fun hHeld => ?_)
    · ((try dsimp only) <;> (trivial))
    clear hK K
    try (simp only [Act.put, aST]; dsimp only [aS0, aS1])
    refine rdone ?_
    rotate_left
    go_simp
    refine hK.out _ _ ?_ (fun hHeld => ?_)
    · ((try dsimp only) <;> (trivial))
    clear hK K
    try (simp only [Act.put, aST]; dsimp only [aS0, aS1])
    refine wpAnyH_ready (rs := [0, 6]) (by kernel_rfl) (by simp) ?_
    refine AllReadyH.cons (o := ⟨_, _, _, _, _, _⟩) rfl (fun K hK => ?_) (AllReadyH.cons (o := ⟨_, _, _, _, _, _⟩) rfl (fun K hK => ?_) AllReadyH.nil)
    go_simp
    refine hK.out _ _ ?_ (fun hHeld => ?_)
    · ((try dsimp only) <;> (trivial))
    clear hK K
    try (simp only [Act.put, aST]; dsimp only [aS0, aS1])
    refine wpAnyH_ready (rs := [3, 6]) (by kernel_rfl) (by simp) ?_
    refine AllReadyH.cons (o := ⟨_, _, _, _, _, _⟩) rfl (fun K hK => ?_) (AllReadyH.cons (o := ⟨_, _, _, _, _, _⟩) rfl (fun K hK => ?_) AllReadyH.nil)
    go_simp
    refine hK.out _ _ ?_ (fun hHeld => ?_)
    · ((try dsimp only) <;> (trivial))
    clear hK K
    try (simp only [Act.put, aST]; dsimp only [aS0, aS1])
    refine rone 6 fun K hK => ?_
    go_simp
    refine hK.out _ _ ?_ (fun hHeld => ?_)
    · ((try dsimp only) <;> (trivial))
    clear hK K
    try (simp only [Act.put, aST]; dsimp only [aS0, aS1])
    refine rone 7 fun K hK => ?_
    go_simp
    refine hK.out _ _ ?_ (fun hHeld => ?_)
    · ((try dsimp only) <;> (trivial))
    clear hK K
    try (simp only [Act.put, aST]; dsimp only [aS0, aS1])
    refine rone 8 fun K hK => ?_
    go_simp
    refine hK.out _ _ ?_ (fun hHeld => ?_)
    · ((try dsimp only) <;> (trivial))
    clear hK K
    try (simp only [Act.put, aST]; dsimp only [aS0, aS1])
    refine rone 9 fun K hK => ?_
    go_simp
    refine hK.out _ _ ?_ (fun hHeld => ?_)
    · ((try dsimp only) <;> (trivial))
    clear hK K
    try (simp only [Act.put, aST]; dsimp only [aS0, aS1])
    refine rdone ?_
    rotate_left
    go_simp
    refine hK.out _ _ ?_ (fun hHeld => ?_)
    · ((try dsimp only) <;> (trivial))
    clear hK K
    try (simp only [Act.put, aST]; dsimp only [aS0, aS1])
    refine rone 3 fun K hK => ?_
    go_simp
    refine hK.out _ _ ?_ (fun hHeld => ?_)
    · ((try dsimp only) <;> (trivial))
    clear hK K
    try (simp only [Act.put, aST]; dsimp only [aS0, aS1])
    refine rone 7 fun K hK => ?_
    go_simp
    refine hK.out _ _ ?_ (fun hHeld => ?_)
    · ((try dsimp only) <;> (trivial))
    clear hK K
    try (simp only [Act.put, aST]; dsimp only [aS0, aS1])
    refine rone 8 fun K hK => ?_
    go_simp
    refine hK.out _ _ ?_ (fun hHeld => ?_)
    · ((try dsimp only) <;> (trivial))
    clear hK K
    try (simp only [Act.put, aST]; dsimp only [aS0, aS1])
    refine rone 9 fun K hK => ?_
    go_simp
    refine hK.out _ _ ?_ (fun hHeld => ?_)
    · ((try dsimp only) <;> (trivial))
    clear hK K
    try (simp only [Act.put, aST]; dsimp only [aS0, aS1])
    refine rdone ?_
    rotate_left
    go_simp
    refine hK.out _ _ ?_ (fun hHeld => ?_)
    · ((try dsimp only) <;> (trivial))
    clear hK K
    try (simp only [Act.put, aST]; dsimp only [aS0, aS1])
    refine rone 0 fun K hK => ?_
    go_simp
    refine hK.out _ _ ?_ (fun hHeld => ?_)
    · ((try dsimp only) <;> (trivial))
    clear hK K
    try (simp only [Act.put, aST]; dsimp only [aS0, aS1])
    refine rone 3 fun K hK => ?_
    go_simp
    refine hK.out _ _ ?_ (fun hHeld => ?_)
    · ((try dsimp only) <;> (trivial))
    clear hK K
    try (simp only [Act.put, aST]; dsimp only [aS0, aS1])
    refine rone 7 fun K hK => ?_
    go_simp
    refine hK.out _ _ ?_ (fun hHeld => ?_)
    · ((try dsimp only) <;> (trivial))
    clear hK K
    try (simp only [Act.put, aST]; dsimp only [aS0, aS1])
    refine rone 8 fun K hK => ?_
    go_simp
    refine hK.out _ _ ?_ (fun hHeld => ?_)
    · ((try dsimp only) <;> (trivial))
    clear hK K
    try (simp only [Act.put, aST]; dsimp only [aS0, aS1])
    refine rone 9 fun K hK => ?_
    go_simp
    refine hK.out _ _ ?_ (fun hHeld => ?_)
    · ((try dsimp only) <;> (trivial))
    clear hK K
    try (simp only [Act.put, aST]; dsimp only [aS0, aS1])
    refine rdone ?_
    rotate_left
    go_simp
    refine hK.out _ _ ?_ (fun hHeld => ?_)
    · ((try dsimp only) <;> (trivial))
    clear hK K
    try (simp only [Act.put, aST]; dsimp only [aS0, aS1])
    refine wpAnyH_ready (rs := [0, 4]) (by kernel_rfl) (by simp) ?_
    refine AllReadyH.cons (o := ⟨_, _, _, _, _, _⟩) rfl (fun K hK => ?_) (AllReadyH.cons (o := ⟨_, _, _, _, _, _⟩) rfl (fun K hK => ?_) AllReadyH.nil)
    go_simp
    refine hK.out _ _ ?_ (fun hHeld => ?_)
    · ((try dsimp only) <;> (trivial))
    clear hK K
    try (simp only [Act.put, aST]; dsimp only [aS0, aS1])
    refine wpAnyH_ready (rs := [3, 4]) (by kernel_rfl) (by simp) ?_
    refine AllReadyH.cons (o := ⟨_, _, _, _, _, _⟩) rfl (fun K hK => ?_) (AllReadyH.cons (o := ⟨_, _, _, _, _, _⟩) rfl (fun K hK => ?_) AllReadyH.nil)
    go_simp
    refine hK.out _ _ ?_ (fun hHeld => ?_)
    · ((try dsimp only) <;> (trivial))
    clear hK K
    try (simp only [Act.put, aST]; dsimp only [aS0, aS1])
    refine rone 4 fun K hK => ?_
    go_simp
    refine hK.out _ _ ?_ (fun hHeld => ?_)
    · ((try dsimp only) <;> (trivial))
    clear hK K
    try (simp only [Act.put, aST]; dsimp only [aS0, aS1])
    refine rone 7 fun K hK => ?_
    go_simp
    refine hK.out _ _ ?_ (fun hHeld => ?_)
    · ((try dsimp only) <;> (trivial))
    clear hK K
    try (simp only [Act.put, aST]; dsimp only [aS0, aS1])
    refine rone 8 fun K hK => ?_
    go_simp
    refine hK.out _ _ ?_ (fun hHeld => ?_)
    · ((try dsimp only) <;> (trivial))
    clear hK K
    try (simp only [Act.put, aST]; dsimp only [aS0, aS1])
    refine rone 9 fun K hK => ?_
    go_simp
    refine hK.out _ _ ?_ (fun hHeld => ?_)
    · ((try dsimp only) <;> (trivial))
    clear hK K
    try (simp only [Act.put, aST]; dsimp only [aS0, aS1])
    refine rdone ?_
    rotate_left
    go_simp
    refine hK.out _ _ ?_ (fun hHeld => ?_)
    · ((try dsimp only) <;> (trivial))
    clear hK K
    try (simp only [Act.put, aST]; dsimp only [aS0, aS1])
    refine rone 3 fun K hK => ?_
    go_simp
    refine hK.out _ _ ?_ (fun hHeld => ?_)
    · ((try dsimp only) <;> (trivial))
    clear hK K
    try (simp only [Act.put, aST]; dsimp only [aS0, aS1])
    refine rone 7 fun K hK => ?_
    go_simp
    refine hK.out _ _ ?_ (fun hHeld => ?_)
    · ((try dsimp only) <;> (trivial))
    clear hK K
    try (simp only [Act.put, aST]; dsimp only [aS0, aS1])
    refine rone 8 fun K hK => ?_
    go_simp
    refine hK.out _ _ ?_ (fun hHeld => ?_)
    · ((try dsimp only) <;> (trivial))
    clear hK K
    try (simp only [Act.put, aST]; dsimp only [aS0, aS1])
    refine rone 9 fun K hK => ?_
    go_simp
    refine hK.out _ _ ?_ (fun hHeld => ?_)
    · ((try dsimp only) <;> (trivial))
    clear hK K
    try (simp only [Act.put, aST]; dsimp only [aS0, aS1])
    refine rdone ?_
    rotate_left
    go_simp
    refine hK.out _ _ ?_ (fun hHeld => ?_)
    · ((try dsimp only) <;> (trivial))
    clear hK K
    try (simp only [Act.put, aST]; dsimp only [aS0, aS1])
    refine rone 0 fun K hK => ?_
    go_simp
    refine hK.out _ _ ?_ (fun hHeld => ?_)
    · ((try dsimp only) <;> (trivial))
    clear hK K
    try (simp only [Act.put, aST]; dsimp only [aS0, aS1])
    refine rone 3 fun K hK => ?_
    go_simp
    refine hK.out _ _ ?_ (fun hHeld => ?_)
    · ((try dsimp only) <;> (trivial))
    clear hK K
    try (simp only [Act.put, aST]; dsimp only [aS0, aS1])
    refine rone 7 fun K hK => ?_
    go_simp
    refine hK.out _ _ ?_ (fun hHeld => ?_)
    · ((try dsimp only) <;> (trivial))
    clear hK K
    try (simp only [Act.put, aST]; dsimp only [aS0, aS1])
    refine rone 8 fun K hK => ?_
    go_simp
    refine hK.out _ _ ?_ (fun hHeld => ?_)
    · ((try dsimp only) <;> (trivial))
    clear hK K
    try (simp only [Act.put, aST]; dsimp only [aS0, aS1])
    refine rone 9 fun K hK => ?_
    go_simp
    refine hK.out _ _ ?_ (fun hHeld => ?_)
    · ((try dsimp only) <;> (trivial))
    clear hK K
    try (simp only [Act.put, aST]; dsimp only [aS0, aS1])
    refine rdone ?_
    rotate_left
    go_simp
    refine hK.out _ _ ?_ (fun hHeld => ?_)
    · ((try dsimp only) <;> (trivial))
    clear hK K
    try (simp only [Act.put, aST]; dsimp only [aS0, aS1])
    refine wpAnyH_ready (rs := [0, 2, 6]) (by kernel_rfl) (by simp) ?_
    refine AllReadyH.cons (o := ⟨_, _, _, _, _, _⟩) rfl (fun K hK => ?_) (AllReadyH.cons (o := ⟨_, _, _, _, _, _⟩) rfl (fun K hK => ?_) (AllReadyH.cons (o := ⟨_, _, _, _, _, _⟩) rfl (fun K hK => ?_) AllReadyH.nil))
    go_simp
    refine hK.out _ _ ?_ (fun hHeld => ?_)
    · ((try dsimp only) <;> (trivial))
    clear hK K
    try (simp only [Act.put, aST]; dsimp only [aS0, aS1])
    refine wpAnyH_ready (rs := [2, 6]) (by kernel_rfl) (by simp) ?_
    refine AllReadyH.cons (o := ⟨_, _, _, _, _, _⟩) rfl (fun K hK => ?_) (AllReadyH.cons (o := ⟨_, _, _, _, _, _⟩) rfl (fun K hK => ?_) AllReadyH.nil)
    go_simp
    refine hK.out _ _ ?_ (fun hHeld => ?_)
    · ((try dsimp only) <;> (trivial))
    clear hK K
    try (simp only [Act.put, aST]; dsimp only [aS0, aS1])
    refine wpAnyH_ready (rs := [3, 6]) (by kernel_rfl) (by simp) ?_
    refine AllReadyH.cons (o := ⟨_, _, _, _, _, _⟩) rfl (fun K hK => ?_) (AllReadyH.cons (o := ⟨_, _, _, _, _, _⟩) rfl (fun K hK => ?_) AllReadyH.nil)
    go_simp
    refine hK.out _ _ ?_ (fun hHeld => ?_)
    · ((try dsimp only) <;> (trivial))
    clear hK K
    try (simp only [Act.put, aST]; dsimp only [aS0, aS1])
    refine rone 6 fun K hK => ?_
    go_simp
    refine hK.out _ _ ?_ (fun hHeld => ?_)
    · ((try dsimp only) <;> (trivial))
    clear hK K
    try (simp only [Act.put, aST]; dsimp only [aS0, aS1])
    refine rone 7 fun K hK => ?_
    go_simp
    refine hK.out _ _ ?_ (fun hHeld => ?_)
    · ((try dsimp only) <;> (trivial))
    clear hK K
    try (simp only [Act.put, aST]; dsimp only [aS0, aS1])
    refine rone 8 fun K hK => ?_
    go_simp
    refine hK.out _ _ ?_ (fun hHeld => ?_)
    · ((try dsimp only) <;> (trivial))
    clear hK K
    try (simp only [Act.put, aST]; dsimp only [aS0, aS1])
    refine rone 9 fun K hK => ?_
    go_simp
    refine hK.out _ _ ?_ (fun hHeld => ?_)
    · ((try dsimp only) <;> (trivial))
    clear hK K
    try (simp only [Act.put, aST]; dsimp only [aS0, aS1])
    refine rdone ?_
    rotate_left
    go_simp
    refine hK.out _ _ ?_ (fun hHeld => ?_)
    · ((try dsimp only) <;> (trivial))
    clear hK K
    try (simp only [Act.put, aST]; dsimp only [aS0, aS1])
    refine rone 3 fun K hK => ?_
    go_simp
    refine hK.out _ _ ?_ (fun hHeld => ?_)
    · ((try dsimp only) <;> (trivial))
    clear hK K
    try (simp only [Act.put, aST]; dsimp only [aS0, aS1])
    refine rone 7 fun K hK => ?_
    go_simp
    refine hK.out _ _ ?_ (fun hHeld => ?_)
    · ((try dsimp only) <;> (trivial))
    clear hK K
    try (simp only [Act.put, aST]; dsimp only [aS0, aS1])
    refine rone 8 fun K hK => ?_
    go_simp
    refine hK.out _ _ ?_ (fun hHeld => ?_)
    · ((try dsimp only) <;> (trivial))
    clear hK K
    try (simp only [Act.put, aST]; dsimp only [aS0, aS1])
    refine rone 9 fun K hK => ?_
    go_simp
    refine hK.out _ _ ?_ (fun hHeld => ?_)
    · ((try dsimp only) <;> (trivial))
    clear hK K
    try (simp only [Act.put, aST]; dsimp only [aS0, aS1])
    refine rdone ?_
    rotate_left
    go_simp
    refine hK.out _ _ ?_ (fun hHeld => ?_)
    · ((try dsimp only) <;> (trivial))
    clear hK K
    try (simp only [Act.put, aST]; dsimp only [aS0, aS1])
    refine rone 2 fun K hK => ?_
    go_simp
    refine hK.out _ _ ?_ (fun hHeld => ?_)
    · ((try dsimp only) <;> (trivial))
    clear hK K
    try (simp only [Act.put, aST]; dsimp only [aS0, aS1])
    refine rone 3 fun K hK => ?_
    go_simp
    refine hK.out _ _ ?_ (fun hHeld => ?_)
    · ((try dsimp only) <;> (trivial))
    clear hK K
    try (simp only [Act.put, aST]; dsimp only [aS0, aS1])
    refine rone 7 fun K hK => ?_
    go_simp
    refine hK.out _ _ ?_ (fun hHeld => ?_)
    · ((try dsimp only) <;> (trivial))
    clear hK K
    try (simp only [Act.put, aST]; dsimp only [aS0, aS1])
    refine rone 8 fun K hK => ?_
    go_simp
    refine hK.out _ _ ?_ (fun hHeld => ?_)
    · ((try dsimp only) <;> (trivial))
    clear hK K
    try (simp only [Act.put, aST]; dsimp only [aS0, aS1])
    refine rone 9 fun K hK => ?_
    go_simp
    refine hK.out _ _ ?_ (fun hHeld => ?_)
    · ((try dsimp only) <;> (trivial))
    clear hK K
    try (simp only [Act.put, aST]; dsimp only [aS0, aS1])
    refine rdone ?_
    rotate_left
    go_simp
    refine hK.out _ _ ?_ (fun hHeld => ?_)
    · ((try dsimp only) <;> (trivial))
    clear hK K
    try (simp only [Act.put, aST]; dsimp only [aS0, aS1])
    refine wpAnyH_ready (rs := [0, 6]) (by kernel_rfl) (by simp) ?_
    refine AllReadyH.cons (o := ⟨_, _, _, _, _, _⟩) rfl (fun K hK => ?_) (AllReadyH.cons (o := ⟨_, _, _, _, _, _⟩) rfl (fun K hK => ?_) AllReadyH.nil)
    go_simp
    refine hK.out _ _ ?_ (fun hHeld => ?_)
    · ((try dsimp only) <;> (trivial))
    clear hK K
    try (simp only [Act.put, aST]; dsimp only [aS0, aS1])
    refine wpAnyH_ready (rs := [3, 6]) (by kernel_rfl) (by simp) ?_
    refine AllReadyH.cons (o := ⟨_, _, _, _, _, _⟩) rfl (fun K hK => ?_) (AllReadyH.cons (o := ⟨_, _, _, _, _, _⟩) rfl (fun K hK => ?_) AllReadyH.nil)
    go_simp
    refine hK.out _ _ ?_ (fun hHeld => ?_)
    · ((try dsimp only) <;> (trivial))
    clear hK K
    try (simp only [Act.put, aST]; dsimp only [aS0, aS1])
    refine rone 6 fun K hK => ?_
    go_simp
    refine hK.out _ _ ?_ (fun hHeld => ?_)
    · ((try dsimp only) <;> (trivial))
    clear hK K
    try (simp only [Act.put, aST]; dsimp only [aS0, aS1])
    refine rone 7 fun K hK => ?_
    go_simp
    refine hK.out _ _ ?_ (fun hHeld => ?_)
    · ((try dsimp only) <;> (trivial))
    clear hK K
    try (simp only [Act.put, aST]; dsimp only [aS0, aS1])
    refine rone 8 fun K hK => ?_
    go_simp
    refine hK.out _ _ ?_ (fun hHeld => ?_)
    · ((try dsimp only) <;> (trivial))
    clear hK K
    try (simp only [Act.put, aST]; dsimp only [aS0, aS1])
    refine rone 9 fun K hK => ?_
    go_simp
    refine hK.out _ _ ?_ (fun hHeld => ?_)
    · ((try dsimp only) <;> (trivial))
    clear hK K
    try (simp only [Act.put, aST]; dsimp only [aS0, aS1])
    refine rdone ?_
    rotate_left
    go_simp
    refine hK.out _ _ ?_ (fun hHeld => ?_)
    · ((try dsimp only) <;> (trivial))
    clear hK K
    try (simp only [Act.put, aST]; dsimp only [aS0, aS1])
    refine rone 3 fun K hK => ?_
    go_simp
    refine hK.out _ _ ?_ (fun hHeld => ?_)
    · ((try dsimp only) <;> (trivial))
    clear hK K
    try (simp only [Act.put, aST]; dsimp only [aS0, aS1])
    refine rone 7 fun K hK => ?_
    go_simp
    refine hK.out _ _ ?_ (fun hHeld => ?_)
    · ((try dsimp only) <;> (trivial))
    clear hK K
    try (simp only [Act.put, aST]; dsimp only [aS0, aS1])
    refine rone 8 fun K hK => ?_
    go_simp
    refine hK.out _ _ ?_ (fun hHeld => ?_)
    · ((try dsimp only) <;> (trivial))
    clear hK K
    try (simp only [Act.put, aST]; dsimp only [aS0, aS1])
    refine rone 9 fun K hK => ?_
    go_simp
    refine hK.out _ _ ?_ (fun hHeld => ?_)
    · ((try dsimp only) <;> (trivial))
    clear hK K
    try (simp only [Act.put, aST]; dsimp only [aS0, aS1])
    refine rdone ?_
    rotate_left
    go_simp
    refine hK.out _ _ ?_ (fun hHeld => ?_)
    · ((try dsimp only) <;> (trivial))
    clear hK K
    try (simp only [Act.put, aST]; dsimp only [aS0, aS1])
    refine rone 0 fun K hK => ?_
    go_simp
    refine hK.out _ _ ?_ (fun hHeld => ?_)
    · ((try dsimp only) <;> (trivial))
    clear hK K
    try (simp only [Act.put, aST]; dsimp only [aS0, aS1])
    refine rone 3 fun K hK => ?_
    go_simp
    refine hK.out _ _ ?_ (fun hHeld => ?_)
    · ((try dsimp only) <;> (trivial))
    clear hK K
    try (simp only [Act.put, aST]; dsimp only [aS0, aS1])
    refine rone 7 fun K hK => ?_
    go_simp
    refine hK.out _ _ ?_ (fun hHeld => ?_)
    · ((try dsimp only) <;> (trivial))
    clear hK K
    try (simp only [Act.put, aST]; dsimp only [aS0, aS1])
    refine rone 8 fun K hK => ?_
    go_simp
    refine hK.out _ _ ?_ (fun hHeld => ?_)
    · ((try dsimp only) <;> (trivial))
    clear hK K
    try (simp only [Act.put, aST]; dsimp only [aS0, aS1])
    refine rone 9 fun K hK => ?_
    go_simp
    refine hK.out _ _ ?_ (fun hHeld => ?_)
    · ((try dsimp only) <;> (trivial))
    clear hK K
    try (simp only [Act.put, aST]; dsimp only [aS0, aS1])
    refine rdone ?_
    rotate_left
    go_simp
    refine hK.out _ _ ?_ (fun hHeld => ?_)
    · ((try dsimp only) <;> (trivial))
    clear hK K
    try (simp only [Act.put, aST]; dsimp only [aS0, aS1])
    refine wpAnyH_ready (rs := [0, 2]) (by kernel_rfl) (by simp) ?_
    refine AllReadyH.cons (o := ⟨_, _, _, _, _, _⟩) rfl (fun K hK => ?_) (AllReadyH.cons (o := ⟨_, _, _, _, _, _⟩) rfl (fun K hK => ?_) AllReadyH.nil)
    go_simp
    refine hK.out _ _ ?_ (fun hHeld => ?_)
    · ((try dsimp only) <;> (trivial))
    clear hK K
    try (simp only [Act.put, aST]; dsimp only [aS0, aS1])
    refine rone 2 fun K hK => ?_
    go_simp
    refine hK.out _ _ ?_ (fun hHeld => ?_)
    · ((try dsimp only) <;> (trivial))
    clear hK K
    try (simp only [Act.put, aST]; dsimp only [aS0, aS1])
    refine rone 3 fun K hK => ?_
    go_simp
    refine hK.out _ _ ?_ (fun hHeld => ?_)
    · ((try dsimp only) <;> (trivial))
    clear hK K
    try (simp only [Act.put, aST]; dsimp only [aS0, aS1])
    refine rone 7 fun K hK => ?_
    go_simp
    refine hK.out _ _ ?_ (fun hHeld => ?_)
    · ((try dsimp only) <;> (trivial))
    clear hK K
    try (simp only [Act.put, aST]; dsimp only [aS0, aS1])
    refine rone 8 fun K hK => ?_
    go_simp
    refine hK.out _ _ ?_ (fun hHeld => ?_)
    · ((try dsimp only) <;> (trivial))
    clear hK K
    try (simp only [Act.put, aST]; dsimp only [aS0, aS1])
    refine rone 9 fun K hK => ?_
    go_simp
    refine hK.out _ _ ?_ (fun hHeld => ?_)
    · ((try dsimp only) <;> (trivial))
    clear hK K
    try (simp only [Act.put, aST]; dsimp only [aS0, aS1])
    refine rdone ?_
    rotate_left
    go_simp
    refine hK.out _ _ ?_ (fun hHeld => ?_)
    · ((try dsimp only) <;> (trivial))
    clear hK K
    try (simp only [Act.put, aST]; dsimp only [aS0, aS1])
    refine rone 0 fun K hK => ?_
    go_simp
    refine hK.out _ _ ?_ (fun hHeld => ?_)
    · ((try dsimp only) <;> (trivial))
    clear hK K
    try (simp only [Act.put, aST]; dsimp only [aS0, aS1])
    refine rone 3 fun K hK => ?_
    go_simp
    refine hK.out _ _ ?_ (fun hHeld => ?_)
    · ((try dsimp only) <;> (trivial))
    clear hK K
    try (simp only [Act.put, aST]; dsimp only [aS0, aS1])
    refine rone 7 fun K hK => ?_
    go_simp
    refine hK.out _ _ ?_ (fun hHeld => ?_)
    · ((try dsimp only) <;> (trivial))
    clear hK K
    try (simp only [Act.put, aST]; dsimp only [aS0, aS1])
    refine rone 8 fun K hK => ?_
    go_simp
    refine hK.out _ _ ?_ (fun hHeld => ?_)
    · ((try dsimp only) <;> (trivial))
    clear hK K
    try (simp only [Act.put, aST]; dsimp only [aS0, aS1])
    refine rone 9 fun K hK => ?_
    go_simp
    refine hK.out _ _ ?_ (fun hHeld => ?_)
    · ((try dsimp only) <;> (trivial))
    clear hK K
    try (simp only [Act.put, aST]; dsimp only [aS0, aS1])
    refine rdone ?_
    rotate_left
    go_simp
    refine hK.out _ _ ?_ (fun hHeld => ?_)
    · ((try dsimp only) <;> (trivial))
    clear hK K
    try (simp only [Act.put, aST]; dsimp only [aS0, aS1])
    refine wpAnyH_ready (rs := [0, 2, 4]) (by kernel_rfl) (by simp) ?_
    refine AllReadyH.cons (o := ⟨_, _, _, _, _, _⟩) rfl (fun K hK => ?_) (AllReadyH.cons (o := ⟨_, _, _, _, _, _⟩) rfl (fun K hK => ?_) (AllReadyH.cons (o := ⟨_, _, _, _, _, _⟩) rfl (fun K hK => ?_) AllReadyH.nil))
    go_simp
    refine hK.out _ _ ?_ (fun hHeld => ?_)
    · ((try dsimp only) <;> (trivial))
    clear hK K
    try (simp only [Act.put, aST]; dsimp only [aS0, aS1])
    refine wpAnyH_ready (rs := [2, 4]) (by kernel_rfl) (by simp) ?_
    refine AllReadyH.cons (o := ⟨_, _, _, _, _, _⟩) rfl (fun K hK => ?_) (AllReadyH.cons (o := ⟨_, _, _, _, _, _⟩) rfl (fun K hK => ?_) AllReadyH.nil)
    go_simp
    refine hK.out _ _ ?_ (fun hHeld => ?_)
    · ((try dsimp only) <;> (trivial))
    clear hK K
    try (simp only [Act.put, aST]; dsimp only [aS0, aS1])
    refine wpAnyH_ready (rs := [3, 4]) (by kernel_rfl) (by simp) ?_
    refine AllReadyH.cons (o := ⟨_, _, _, _, _, _⟩) rfl (fun K hK => ?_) (AllReadyH.cons (o := ⟨_, _, _, _, _, _⟩) rfl (fun K hK => ?_) AllReadyH.nil)
    go_simp
    refine hK.out _ _ ?_ (fun hHeld => ?_)
    · ((try dsimp only) <;> (trivial))
    clear hK K
    try (simp only [Act.put, aST]; dsimp only [aS0, aS1])
    refine rone 4 fun K hK => ?_
    go_simp
    refine hK.out _ _ ?_ (fun hHeld => ?_)
    · ((try dsimp only) <;> (trivial))
    clear hK K
    try (simp only [Act.put, aST]; dsimp only [aS0, aS1])
    refine rone 7 fun K hK => ?_
    go_simp
    refine hK.out _ _ ?_ (fun hHeld => ?_)
    · ((try dsimp only) <;> (trivial))
    clear hK K
    try (simp only [Act.put, aST]; dsimp only [aS0, aS1])
    refine rone 8 fun K hK => ?_
    go_simp
    refine hK.out _ _ ?_ (fun hHeld => ?_)
    · ((try dsimp only) <;> (trivial))
    clear hK K
    try (simp only [Act.put, aST]; dsimp only [aS0, aS1])
    refine rone 9 fun K hK => ?_
    go_simp
    refine hK.out _ _ ?_ (fun hHeld => ?_)
    · ((try dsimp only) <;> (trivial))
    clear hK K
    try (simp only [Act.put, aST]; dsimp only [aS0, aS1])
    refine rdone ?_
    rotate_left
    go_simp
    refine hK.out _ _ ?_ (fun hHeld => ?_)
    · ((try dsimp only) <;> (trivial))
    clear hK K
    try (simp only [Act.put, aST]; dsimp only [aS0, aS1])
    refine rone 3 fun K hK => ?_
    go_simp
    refine hK.out _ _ ?_ (fun hHeld => ?_)
    · ((try dsimp only) <;> (trivial))
    clear hK K
    try (simp only [Act.put, aST]; dsimp only [aS0, aS1])
    refine rone 7 fun K hK => ?_
    go_simp
    refine hK.out _ _ ?_ (fun hHeld => ?_)
    · ((try dsimp only) <;> (trivial))
    clear hK K
    try (simp only [Act.put, aST]; dsimp only [aS0, aS1])
    refine rone 8 fun K hK => ?_
    go_simp
    refine hK.out _ _ ?_ (fun hHeld => ?_)
    · ((try dsimp only) <;> (trivial))
    clear hK K
    try (simp only [Act.put, aST]; dsimp only [aS0, aS1])
    refine rone 9 fun K hK => ?_
    go_simp
    refine hK.out _ _ ?_ (fun hHeld => ?_)
    · ((try dsimp only) <;> (trivial))
    clear hK K
    try (simp only [Act.put, aST]; dsimp only [aS0, aS1])
    refine rdone ?_
    rotate_left
    go_simp
    refine hK.out _ _ ?_ (fun hHeld => ?_)
    · ((try dsimp only) <;> (trivial))
    clear hK K
    try (simp only [Act.put, aST]; dsimp only [aS0, aS1])
    refine rone 2 fun K hK => ?_
    go_simp
    refine hK.out _ _ ?_ (fun hHeld => ?_)
    · ((try dsimp only) <;> (trivial))
    clear hK K
    try (simp only [Act.put, aST]; dsimp only [aS0, aS1])
    refine rone 3 fun K hK => ?_
    go_simp
    refine hK.out _ _ ?_ (fun hHeld => ?_)
    · ((try dsimp only) <;> (trivial))
    clear hK K
    try (simp only [Act.put, aST]; dsimp only [aS0, aS1])
    refine rone 7 fun K hK => ?_
    go_simp
    refine hK.out _ _ ?_ (fun hHeld => ?_)
    · ((try dsimp only) <;> (trivial))
    clear hK K
    try (simp only [Act.put, aST]; dsimp only [aS0, aS1])
    refine rone 8 fun K hK => ?_
    go_simp
    refine hK.out _ _ ?_ (fun hHeld => ?_)
    · ((try dsimp only) <;> (trivial))
    clear hK K
    try (simp only [Act.put, aST]; dsimp only [aS0, aS1])
    refine rone 9 fun K hK => ?_
    go_simp
    refine hK.out _ _ ?_ (fun hHeld => ?_)
    · ((try dsimp only) <;> (trivial))
    clear hK K
    try (simp only [Act.put, aST]; dsimp only [aS0, aS1])
    refine rdone ?_
    rotate_left
    go_simp
    refine hK.out _ _ ?_ (fun hHeld => ?_)
    · ((try dsimp only) <;> (trivial))
    clear hK K
    try (simp only [Act.put, aST]; dsimp only [aS0, aS1])
    refine wpAnyH_ready (rs := [0, 4]) (by kernel_rfl) (by simp) ?_
    refine AllReadyH.cons (o := ⟨_, _, _, _, _, _⟩) rfl (fun K hK => ?_) (AllReadyH.cons (o := ⟨_, _, _, _, _, _⟩) rfl (fun K hK => ?_) AllReadyH.nil)
    go_simp
    refine hK.out _ _ ?_ (fun hHeld => ?_)
    · ((try dsimp only) <;> (trivial))
    clear hK K
    try (simp only [Act.put, aST]; dsimp only [aS0, aS1])
    refine wpAnyH_ready (rs := [3, 4]) (by kernel_rfl) (by simp) ?_
    refine AllReadyH.cons (o := ⟨_, _, _, _, _, _⟩) rfl (fun K hK => ?_) (AllReadyH.cons (o := ⟨_, _, _, _, _, _⟩) rfl (fun K hK => ?_) AllReadyH.nil)
    go_simp
    refine hK.out _ _ ?_ (fun hHeld => ?_)
    · ((try dsimp only) <;> (trivial))
    clear hK K
    try (simp only [Act.put, aST]; dsimp only [aS0, aS1])
    refine rone 4 fun K hK => ?_
    go_simp
    refine hK.out _ _ ?_ (fun hHeld => ?_)
    · ((try dsimp only) <;> (trivial))
    clear hK K
    try (simp only [Act.put, aST]; dsimp only [aS0, aS1])
    refine rone 7 fun K hK => ?_
    go_simp
    refine hK.out _ _ ?_ (fun hHeld => ?_)
    · ((try dsimp only) <;> (trivial))
    clear hK K
    try (simp only [Act.put, aST]; dsimp only [aS0, aS1])
    refine rone 8 fun K hK => ?_
    go_simp
    refine hK.out _ _ ?_ (fun hHeld => ?_)
    · ((try dsimp only) <;> (trivial))
    clear hK K
    try (simp only [Act.put, aST]; dsimp only [aS0, aS1])
    refine rone 9 fun K hK => ?_
    go_simp
    refine hK.out _ _ ?_ (fun hHeld => ?_)
    · ((try dsimp only) <;> (trivial))
    clear hK K
    try (simp only [Act.put, aST]; dsimp only [aS0, aS1])
    refine rdone ?_
    rotate_left
    go_simp
    refine hK.out _ _ ?_ (fun hHeld => ?_)
    · ((try dsimp only) <;> (trivial))
    clear hK K
    try (simp only [Act.put, aST]; dsimp only [aS0, aS1])
    refine rone 3 fun K hK => ?_
    go_simp
    refine hK.out _ _ ?_ (fun hHeld => ?_)
    · ((try dsimp only) <;> (trivial))
    clear hK K
    try (simp only [Act.put, aST]; dsimp only [aS0, aS1])
    refine rone 7 fun K hK => ?_
    go_simp
    refine hK.out _ _ ?_ (fun hHeld => ?_)
    · ((try dsimp only) <;> (trivial))
    clear hK K
    try (simp only [Act.put, aST]; dsimp only [aS0, aS1])
    refine rone 8 fun K hK => ?_
    go_simp
    refine hK.out _ _ ?_ (fun hHeld => ?_)
    · ((try dsimp only) <;> (trivial))
    clear hK K
    try (simp only [Act.put, aST]; dsimp only [aS0, aS1])
    refine rone 9 fun K hK => ?_
    go_simp
    refine hK.out _ _ ?_ (fun hHeld => ?_)
    · ((try dsimp only) <;> (trivial))
    clear hK K
    try (simp only [Act.put, aST]; dsimp only [aS0, aS1])
    refine rdone ?_
    rotate_left
    go_simp
    refine hK.out _ _ ?_ (fun hHeld => ?_)
    · ((try dsimp only) <;> (trivial))
    clear hK K
    try (simp only [Act.put, aST]; dsimp only [aS0, aS1])
    refine rone 0 fun K hK => ?_
    go_simp
    refine hK.out _ _ ?_ (fun hHeld => ?_)
    · ((try dsimp only) <;> (trivial))
    clear hK K
    try (simp only [Act.put, aST]; dsimp only [aS0, aS1])
    refine rone 3 fun K hK => ?_
    go_simp
    refine hK.out _ _ ?_ (fun hHeld => ?_)
    · ((try dsimp only) <;> (trivial))
    clear hK K
    try (simp only [Act.put, aST]; dsimp only [aS0, aS1])
    refine rone 7 fun K hK => ?_
    go_simp
    refine hK.out _ _ ?_ (fun hHeld => ?_)
    · ((try dsimp only) <;> (trivial))
    clear hK K
    try (simp only [Act.put, aST]; dsimp only [aS0, aS1])
    refine rone 8 fun K hK => ?_
    go_simp
    refine hK.out _ _ ?_ (fun hHeld => ?_)
    · ((try dsimp only) <;> (trivial))
    clear hK K
    try (simp only [Act.put, aST]; dsimp only [aS0, aS1])
    refine rone 9 fun K hK => ?_
    go_simp
    refine hK.out _ _ ?_ (fun hHeld => ?_)
    · ((try dsimp only) <;> (trivial))
    clear hK K
    try (simp only [Act.put, aST]; dsimp only [aS0, aS1])
    refine rdone ?_
    rotate_left
    go_simp
    refine hK.out _ _ ?_ (fun hHeld => ?_)
    · ((try dsimp only) <;> (trivial))
    clear hK K
    try (simp only [Act.put, aST]; dsimp only [aS0, aS1])
    refine wpAnyH_ready (rs := [0, 2]) (by kernel_rfl) (by simp) ?_
    refine AllReadyH.cons (o := ⟨_, _, _, _, _, _⟩) rfl (fun K hK => ?_) (AllReadyH.cons (o := ⟨_, _, _, _, _, _⟩) rfl (fun K hK => ?_) AllReadyH.nil)
    go_simp
    refine hK.out _ _ ?_ (fun hHeld => ?_)
    · ((try dsimp only) <;> (trivial))
    clear hK K
    try (simp only [Act.put, aST]; dsimp only [aS0, aS1])
    refine rone 2 fun K hK => ?_
    go_simp
    refine hK.out _ _ ?_ (fun hHeld => ?_)
    · ((try dsimp only) <;> (trivial))
    clear hK K
    try (simp only [Act.put, aST]; dsimp only [aS0, aS1])
    refine rone 3 fun K hK => ?_
    go_simp
    refine hK.out _ _ ?_ (fun hHeld => ?_)
    · ((try dsimp only) <;> (trivial))
    clear hK K
    try (simp only [Act.put, aST]; dsimp only [aS0, aS1])
    refine rone 7 fun K hK => ?_
    go_simp
    refine hK.out _ _ ?_ (fun hHeld => ?_)
    · ((try dsimp only) <;> (trivial))
    clear hK K
    try (simp only [Act.put, aST]; dsimp only [aS0, aS1])
    refine rone 8 fun K hK => ?_
    go_simp
    refine hK.out _ _ ?_ (fun hHeld => ?_)
    · ((try dsimp only) <;> (trivial))
    clear hK K
    try (simp only [Act.put, aST]; dsimp only [aS0, aS1])
    refine rone 9 fun K hK => ?_
    go_simp
    refine hK.out _ _ ?_ (fun hHeld => ?_)
    · ((try dsimp only) <;> (trivial))
    clear hK K
    try (simp only [Act.put, aST]; dsimp only [aS0, aS1])
    refine rdone ?_
    rotate_left
    go_simp
    refine hK.out _ _ ?_ (fun hHeld => ?_)
    · ((try dsimp only) <;> (trivial))
    clear hK K
    try (simp only [Act.put, aST]; dsimp only [aS0, aS1])
    refine rone 0 fun K hK => ?_
    go_simp
    refine hK.out _ _ ?_ (fun hHeld => ?_)
    · ((try dsimp only) <;> (trivial))
    clear hK K
    try (simp only [Act.put, aST]; dsimp only [aS0, aS1])
    refine rone 3 fun K hK => ?_
    go_simp
    refine hK.out _ _ ?_ (fun hHeld => ?_)
    · ((try dsimp only) <;> (trivial))
    clear hK K
    try (simp only [Act.put, aST]; dsimp only [aS0, aS1])
    refine rone 7 fun K hK => ?_
    go_simp
    refine hK.out _ _ ?_ (fun hHeld => ?_)
    · ((try dsimp only) <;> (trivial))
    clear hK K
    try (simp only [Act.put, aST]; dsimp only [aS0, aS1])
    refine rone 8 fun K hK => ?_
    go_simp
    refine hK.out _ _ ?_ (fun hHeld => ?_)
    · ((try dsimp only) <;> (trivial))
    clear hK K
    try (simp only [Act.put, aST]; dsimp only [aS0, aS1])
    refine rone 9 fun K hK => ?_
    go_simp
    refine hK.out _ _ ?_ (fun hHeld => ?_)
    · ((try dsimp only) <;> (trivial))
    clear hK K
    try (simp only [Act.put, aST]; dsimp only [aS0, aS1])
    refine rdone ?_
    rotate_left
    all_goals first | exact HPo.out _ _ _ HA.out | exact HPo.out _ _ _ HB.out | exact HPo.out _ _ _ HCc.out
  case done =>
    rintro D ys W' hD hy hi hK
    have h9 := hOI.putObj (.deferred none) hi hD hK rfl
    obtain ⟨sI, sX, d⟩ := hi.1
    subst hy
    obtain ⟨a9, c9, e9, -⟩ := d.own.is
    obtain ⟨n9, hn9⟩ : ∃ n, (ys.map Ro.id).length = n := ⟨_, rfl⟩
    rw [hn9] at e9
    obtain ⟨a8, c8, e8, -⟩ := d.ownX.is
    obtain ⟨n8, hn8⟩ : ∃ n, (ys.map Ro.x).length = n := ⟨_, rfl⟩
    rw [hn8] at e8
    clear hn8 hn9
    have q4 := d.atI
    have q5 := d.atX
    subst e8 e9
    gi_upto_region 7 with fail
    refine wpIn_wide.2 ?_
    refine rbegin (S := (fun w' => w'.heap[gI]? = some (.cells #[.slice a9 n9 c9] 22 (0, 0)) ∧ w'.heap[gX]? = some (.cells #[.slice a8 n8 c8] 53 (0, 0)))) ?_ fun hHeld => ?_
    · ((try dsimp only) <;> (exact ⟨q4, q5⟩))
    refine rtake 0 ?_
    refine rtake 1 ?_
    refine rtake 2 ?_
    refine rtake 3 ?_
    refine rdone ?_
    gi_wp2
    refine ⟨by simp, .inl ⟨_, _, rfl, run_takeDeferred hK, ?_⟩⟩
    refine ⟨_, results_tmp2 rfl _ _ _, ?_⟩
    obtain ⟨sI', sX', d'⟩ := h9.1
    have hDg : D ≠ gI := fun e => by have := hsl.out; omega
    have hDx : D ≠ gX := fun e => by have := hsl.out; omega
    have e1 := d'.atI
    have e2 := d'.atX
    rw [World.putObj_heap_other (fun e => hDg e.symm), q4] at e1
    rw [World.putObj_heap_other (fun e => hDx e.symm), q5] at e2
    simp only [Option.some.injEq, Obj.cells.injEq, Array.mk.injEq, List.cons.injEq, and_true] at e1 e2
    obtain rfl := e1
    obtain rfl := e2
    have fd : Fr F0 (W'.putObj D (.deferred none)) (W'.drew.putObj D (.deferred none)) := (Fr.refl F0 (W'.putObj D (.deferred none))).drew
    exact ⟨_, _, _, _, _, _, rfl, (d'.own.mono hwz.out).fr0 fd, (d'.ownX.mono hwz.out).fr0 fd, (hFr.out _ h9.2).trans' fd⟩
  case stop =>
    rintro D cc pre W' hD h hK
    exact h.elim
end Go.Proofs.Ytkekdbnmeobgiaa

/- Layer 18 (due): the chapter's example; DueNone, walked. -/
namespace Go.Proofs.Ytkekdbnmeobgiaa
set_option maxRecDepth 100000
set_option linter.unusedVariables false
set_option linter.unusedSimpArgs false
open Go.RowKit

/-- What changes a table of one's own changes nothing that was there. -/
theorem DT.own0 {B : Nat} {w0 w w' : World} {p most last : Nat} {v : Value} {l : List Ro} (d : DT B w p most last v l) (hB : w0.heap.size ≤ B) (f : Fr F0 w0 w) (g : Fr (fun k => k = p ∨ v.ownBlock = some k) w w') : Fr F0 w0 w' :=
  f.trans g fun i hi e => by
    rcases e with e | e
    · have := d.base; omega
    · have := d.own.blk i e; omega
set_option maxHeartbeats 8000000 in
theorem lives18_any (w : World) : Calls Try.prog 6 #[] w fun e w' => e = .returned (.bool true) ∧ Fr F0 w w' := by
  have HN := Lib.hid (dNew_ok 2 (by decide) w)
  go_enter Try.func6, Try.ntmps6
  go_wp2_with fail
  refine HN.out.mono ?_; rintro e w1 ⟨p, rfl, d1, f1⟩
  have HA := Lib.hid (dAdd_ok d1 f1.size (by decide) (by decide) ⟨#[97]⟩ 5 (by decide))
  have H1 := Lib.hid (And.intro d1 f1)
  clear d1 f1 HN
  go_wp2_with fail
  refine HA.out.mono ?_; rintro e w2 ⟨rfl, v2, d2, f2, -⟩
  have H2 := Lib.hid (And.intro d2 (H1.out.1.own0 (Nat.le_refl _) H1.out.2 f2))
  have hat : AtR ([] ++ [(⟨0 + 1, 5, ⟨#[97]⟩⟩ : Ro)]) 1 0 ⟨1, 5, ⟨#[97]⟩⟩ := ⟨rfl, rfl⟩
  have HL := Lib.hid (fun W (f : Fr F0 w2 W) (now : Nat) (o : Bool) (ho : decide (5 < now) = o) => dLate_yes (H2.out.1.fr0 f) hat now o ho)
  have HL1 := Lib.hid (HL.out w2 (Fr.refl _ _) 5 false rfl)
  clear d2 f2 HA H1 hat
  go_wp2_with fail
  refine HL1.out.mono ?_; rintro e w3 ⟨rfl, f3⟩
  have HL2 := Lib.hid (HL.out w3 f3 6 true rfl)
  have F3 := Lib.hid (H2.out.2.trans' f3)
  clear f3 HL HL1
  go_wp2_with fail
  refine HL2.out.mono ?_; rintro e w4 ⟨rfl, f4⟩
  have F4 := Lib.hid (F3.out.trans' f4)
  clear f4 HL2
  go_wp2_with fail
  go_ret
  exact ⟨rfl, F4.out⟩

set_option maxRecDepth 100000 in
set_option maxHeartbeats 8000000 in
theorem dueNone_any (id now : Nat) (x : ByteArray) (w : World) : Calls Try.prog 5 #[.int .u64 (id : Int), .int .u64 (now : Int), .string x] w fun e w' => e = .returned (.bool true) ∧ Fr F0 w w' := by
  have HL := Lib.hid (lives18_any w)
  go_enter Try.func5, Try.ntmps5
  go_wp2_with fail
  (with_reducible refine HL.out.mono ?_); rintro e w1 ⟨rfl, f1⟩
  have F1 := Lib.hid f1
  clear f1 HL
  go_wp2_with fail
  (with_reducible refine (dAdd_nil x now _).mono ?_); rintro e w2 ⟨rfl, hw⟩; replace hw := hw.symm; subst hw
  go_wp2_with fail
  (with_reducible refine (dGet_nil id _).mono ?_); rintro e w2 ⟨rfl, f2⟩
  have F2 := Lib.hid (F1.out.trans' f2)
  clear f2 F1
  go_wp2_with fail
  (with_reducible refine (dAll_nil _).mono ?_); rintro e w3 ⟨gb, v3, rfl, r3, o3, f3⟩
  have HA := Lib.hid (all18_any (show RowsB w2.heap.size gb v3 [] w3 from ⟨r3, o3⟩) (Nat.zero_le _))
  have F3 := Lib.hid (F2.out.trans' f3)
  clear f3 F2 r3 o3
  go_wp2_with fail
  (with_reducible refine HA.out.mono ?_); rintro e w4 ⟨a, n, c, a2, n2, c2, rfl, o4, -, f4⟩
  have hn : n = 0 := (Sl.of_own o4.own).1.symm
  subst hn
  have F4 := Lib.hid (F3.out.trans' f4)
  clear f4 F3 o4 HA
  go_wp2_with fail
  (with_reducible refine (dSet_nil id x _).mono ?_); rintro e w5 ⟨rfl, hw⟩; replace hw := hw.symm; subst hw
  go_wp2_with fail
  (with_reducible refine (dDrop_nil id _).mono ?_); rintro e w5 ⟨rfl, hw⟩; replace hw := hw.symm; subst hw
  go_wp2_with fail
  (with_reducible refine (dLate_nil id now _).mono ?_); rintro e w5 ⟨rfl, f5⟩
  have F5 := Lib.hid (F4.out.trans' f5)
  clear f5 F4
  go_wp2_with fail
  (with_reducible refine (dOver_nil now _).mono ?_); rintro e w6 ⟨gb, v6, s, rfl, r6, o6, hs, f6⟩
  obtain rfl : s = [] := hs.perm.eq_nil
  have HO := Lib.hid (over18_any (show RowsB w5.heap.size gb v6 [] w6 from ⟨r6, o6⟩) (Nat.zero_le _))
  have F6 := Lib.hid (F5.out.trans' f6)
  clear f6 F5 r6 o6 hs
  go_wp2_with fail
  (with_reducible refine HO.out.mono ?_); rintro e w7 ⟨a, n, c, rfl, o7, f7⟩
  have hn : n = 0 := (Sl.of_own o7.own).1.symm
  subst hn
  have F7 := Lib.hid (F6.out.trans' f7)
  clear f7 F6 o7 HO
  go_wp2_with fail
  (with_reducible refine (dLen_nil _).mono ?_); rintro e w8 ⟨rfl, hw⟩; replace hw := hw.symm; subst hw
  go_wp2_with fail
  (with_reducible refine (dLast_nil _).mono ?_); rintro e w8 ⟨rfl, hw⟩; replace hw := hw.symm; subst hw
  go_wp2_with fail
  (with_reducible refine (dCopy_nil _).mono ?_); rintro e w8 ⟨rfl, hw⟩; replace hw := hw.symm; subst hw
  go_wp2_with fail
  go_ret
  exact ⟨rfl, F7.out⟩
end Go.Proofs.Ytkekdbnmeobgiaa

/- Layer 18 (due): same; the law's own list of things. -/
namespace Go.Proofs.Ytkekdbnmeobgiaa
set_option maxRecDepth 100000
set_option linter.unusedVariables false
set_option linter.unusedSimpArgs false
open Go.RowKit

theorem flatNu (l : List Nat) : l.flatMap encNu = l.map U64 := by
  induction l with
  | nil => rfl
  | cons a l ih => rw [List.flatMap_cons, ih]; rfl
theorem OwnN.us {B : Nat} {w : World} {a : Option Addr} {n c : Nat} {l : List Nat} (h : OwnN B w (.slice a n c) l) : n = l.length ∧ Us w a c l := by
  obtain ⟨hn, hs⟩ := Sl.of_own h.own
  exact ⟨hn.symm, by rw [flatNu] at hs; unfold Us; rw [← hn] at hs; exact hs⟩
theorem Us.take {w : World} {a : Option Addr} {c : Nat} {l : List Nat} (h : Us w a c l) (k : Nat) (hk : k ≤ l.length) : Us w a c (l.take k) := by
  have hl : (l.take k).length = k := by rw [List.length_take]; omega
  refine ⟨by simp, by rw [hl]; exact Nat.le_trans hk h.room, h.most, h.nil, fun j u hj => h.cell j u ?_⟩
  rw [List.map_take, List.getElem?_take] at hj
  split at hj
  · exact hj
  · cases hj
set_option maxHeartbeats 8000000 in
theorem same18_any {w : World} {a b : Option Addr} {c d : Nat} {l m : List Nat} (h1 : Us w a c l) (h2 : Us w b d m) (n k : Nat) (hn : n = l.length) (hk : k = m.length) (o : Bool) (ho : decide (l = m) = o) (hb : n ≤ 100000) :
    Calls Try.prog 11 #[.slice a n c, .slice b k d] w fun e w' => e = .returned (.bool o) ∧ Fr F0 w w' := by
  by_cases hnk : n = k
  · subst hnk
    have HU := Lib.hid (fun W (f : Fr F0 w W) => And.intro (h1.fr f) (h2.fr f))
    replace hn := Lib.hid hn
    replace hk := Lib.hid hk
    have HO := Lib.hid ho
    clear h1 h2 ho
    go_enter Try.func11, Try.ntmps11
    go_wp2_with fail
    go_loopw [13] (fun iv wr => ∃ i : Nat, iv = .int .i64 (i : Int) ∧ i ≤ n ∧ (∀ t, t < i → l[t]? = m[t]?) ∧ Fr F0 w wr) (fun iv _ => n - (intOf iv).toNat)
    case atStart => exact ⟨0, rfl, Nat.zero_le _, (fun t h => absurd h (Nat.not_lt_zero t)), Fr.refl _ _⟩
    case round =>
      obtain ⟨i, rfl, hi, hE, F⟩ := hrel
      have HE := Lib.hid (And.intro hE F)
      clear hE F
      by_cases hlt : i < n
      · have l1 : (i : Int) < (n : Int) := by omega
        obtain ⟨g1, o1, rfl, c1⟩ := (HU.out wr HE.out.2).1.get i (by have := hn.out; omega)
        obtain ⟨g2, o2, rfl, c2⟩ := (HU.out wr HE.out.2).2.get i (by have := hk.out; omega)
        have k1 : IntKind.i64.wrap ((i : Int) + 1) = ((i + 1 : Nat) : Int) := by rw [IntWalk.i64_in _ (by omega)]; omega
        obtain ⟨x, hx⟩ : ∃ x, l.getD i 0 = x := ⟨_, rfl⟩
        obtain ⟨y, hy⟩ : ∃ y, m.getD i 0 = y := ⟨_, rfl⟩
        rw [hx] at c1
        rw [hy] at c2
        have HX := Lib.hid (And.intro hx hy)
        clear hx hy
        by_cases hxy : x = y
        · subst hxy
          go_wp2_with fail
          go_region
          go_wp2_with fail
          go_roundw
          case rel =>
            refine ⟨i + 1, rfl, by omega, fun t ht => ?_, HE.out.2.drew⟩
            by_cases e : t = i
            · subst e
              have h1 : t < l.length := by have := hn.out; omega
              have h2 : t < m.length := by have := hk.out; omega
              have := HX.out
              simp only [List.getD, List.getElem?_eq_getElem h1, List.getElem?_eq_getElem h2, Option.getD_some] at this
              rw [List.getElem?_eq_getElem h1, List.getElem?_eq_getElem h2, this.1, this.2]
            · exact HE.out.1 t (by omega)
          case measure => simp [intOf]; omega
        · have n1 : ((x : Int) != (y : Int)) = true := by rw [bne_iff_ne]; omega
          have n2 : (x != y) = true := bne_iff_ne.2 hxy
          have n3 : (x == y) = false := beq_eq_false_iff_ne.2 hxy
          have n4 : ((x : Int) == (y : Int)) = false := beq_eq_false_iff_ne.2 (by omega)
          replace hxy := Lib.hid hxy
          go_wp2_with fail
          go_region
          go_wp2_with fail
          go_ret
          refine ⟨?_, HE.out.2.drew⟩
          have : o = false := by
            rw [← HO.out]
            refine decide_eq_false fun e => hxy.out ?_
            rw [← HX.out.1, ← HX.out.2, e]
          rw [this]
          rfl
      · obtain rfl : i = n := by omega
        have l1 : ¬ (i : Int) < (i : Int) := by omega
        go_wp2_with fail
        go_ret
        refine ⟨?_, HE.out.2⟩
        have : o = true := by
          rw [← HO.out]
          refine decide_eq_true (List.ext_getElem? fun t => ?_)
          by_cases ht : t < i
          · exact HE.out.1 t ht
          · rw [List.getElem?_eq_none (by have := hn.out; omega), List.getElem?_eq_none (by have := hk.out; omega)]
        rw [this]
        rfl
  · have n1 : ((n : Int) != (k : Int)) = true := by rw [bne_iff_ne]; omega
    have n2 : (n != k) = true := bne_iff_ne.2 hnk
    have n3 : (n == k) = false := beq_eq_false_iff_ne.2 hnk
    have n4 : ((n : Int) == (k : Int)) = false := beq_eq_false_iff_ne.2 (by omega)
    obtain rfl : o = false := by rw [← ho]; exact decide_eq_false fun e => hnk (by rw [hn, hk, e])
    clear h1 h2 ho hn hk hnk
    go_enter Try.func11, Try.ntmps11
    go_wp2_with fail
    go_ret
    exact ⟨rfl, Fr.refl _ _⟩

/-! ### The law's own list of things -/
theorem Try.szThing18 : (Try.prog.info? 42).map (·.size) = some 3 := by kernel_rfl
theorem Try.infoThing18 : (Try.prog.info? 42).map (fun i => (i.zero, i.size, i.bytes)) = some (some (.agg #[.int .u64 0, .int .u64 0, .string ⟨#[]⟩]), 3, 32) := by kernel_rfl
@[go_sem ↓ high] theorem load_thing18 (p : Value) : Instr.loadAt 42 p = loadRowAt 42 p := rfl
@[go_sem ↓ high] theorem store_thing18 (p v : Value) : Instr.storeAt 42 p v = storeRowAt 42 p v := rfl
@[go_sem] theorem run_load_thing18 (w : World) (g : Nat) : (loadRowAt 42 (.pointer (some ⟨g, 0, none⟩))).run Try.prog w = rowOut Try.prog 42 (.pointer (some ⟨g, 0, none⟩)) w 3 w.heap[g]? :=
  run_loadRowAt w _ g 3 _ Try.underlying42 rfl Try.szThing18
@[go_sem] theorem run_store_thing18 (w : World) (g : Nat) (cells : Array Value) : (storeRowAt 42 (.pointer (some ⟨g, 0, none⟩)) (.agg cells)).run Try.prog w = rowIn Try.prog 42 (.pointer (some ⟨g, 0, none⟩)) cells g w 3 w.heap[g]? :=
  run_storeRowAt w _ g 3 cells Try.szThing18
abbrev OwnT (B : Nat) (w : World) (v : Value) (l : List Ro) : Prop := OwnE 42 3 encR B w v l
theorem OwnE.row {α : Type} {e size : Nat} {enc : α → List Value} {B : Nat} {w : World} {v : Value} {l : List α} (h : OwnE e size enc B w v l) : (v = .slice none 0 0 ∧ l = []) ∨ ∃ g c, v = .slice (some ⟨g, 0, none⟩) l.length c ∧ B ≤ g ∧ g < w.heap.size ∧ l.length ≤ c ∧ c ≤ maxLen ∧
    ∃ cur, w.heap[g]? = some (.cells cur e (0, 0)) ∧ cur.size = c * size ∧ cur.toList.take (l.length * size) = l.flatMap enc := by
  rcases h.own.2 with ⟨h1, h2⟩ | ⟨g, cap, cur, hv, h3, h4, h5, h6, h7, h8⟩
  · exact .inl ⟨h1, List.eq_nil_of_length_eq_zero h2⟩
  · exact .inr ⟨g, cap, hv, h.blk g (by rw [hv]; rfl), (Array.getElem?_eq_some_iff.1 h4).1, h5, h6, cur, h4, h7, h8⟩
theorem OwnT.cell {B : Nat} {w : World} {g n c : Nat} {l : List Ro} (h : OwnT B w (.slice (some ⟨g, 0, none⟩) n c) l) (i j : Nat) (r : Ro) (u : Value) (hr : l[i]? = some r) (hu : (encR r)[j]? = some u) :
    Obj.cellAt (i * 3 + j) w.heap[g]? = some u := by
  have hj' : j < 3 := by have := (List.getElem?_eq_some_iff.1 hu).1; simpa [encR] using this
  have := h.own.cells (g := g) rfl (i * 3 + j) u (by rw [flat_getE encR_len l i j r hr hj']; exact hu)
  rw [Addr.add_lit, Nat.zero_add, cell_at] at this
  exact this
theorem OwnT.load {B : Nat} {w : World} {g n c : Nat} {l : List Ro} (h : OwnT B w (.slice (some ⟨g, 0, none⟩) n c) l) (i : Nat) (r : Ro) (hr : l[i]? = some r) :
    (loadRowAt 42 (.pointer (some ⟨g, i * 3, none⟩))).run Try.prog w = .ok (.agg #[.int .u64 (r.id : Int), .int .u64 (r.due : Int), .string r.x]) w := by
  exact run_loadAt_mid (P := Try.prog) w g (i * 3) 42 [.int .u64 (r.id : Int), .int .u64 (r.due : Int), .string r.x] _ (fun j u hj => by
    have := OwnT.cell h i j r u hr hj
    rw [cell_at]
    exact this) Try.underlying42 rfl (by rw [Try.szThing18]; rfl)
theorem OwnT.place {B : Nat} {w : World} {a : Option Addr} {n c i : Nat} {l : List Ro} (h : OwnT B w (.slice a n c) l) (hi : i < n) : ∃ g, a = some ⟨g, 0, none⟩ := by
  rcases OwnE.row h with ⟨h1, h2⟩ | ⟨g, c', h1, -⟩
  · cases h1; omega
  · cases h1; exact ⟨g, rfl⟩
theorem OwnE.len {α : Type} {e size : Nat} {enc : α → List Value} {B : Nat} {w : World} {a : Option Addr} {n c : Nat} {l : List α} (h : OwnE e size enc B w (.slice a n c) l) : n = l.length := (Sl.of_own h.own).1.symm
end Go.Proofs.Ytkekdbnmeobgiaa

/- Layer 18 (due): how the law finds those that are late; what both ways have in common. -/
namespace Go.Proofs.Ytkekdbnmeobgiaa
set_option maxRecDepth 100000
set_option linter.unusedVariables false
set_option linter.unusedSimpArgs false
open Go.RowKit

/-- Of the first k the one to be told next, if there is one. -/
def Best (l : List Ro) (now k : Nat) : Option Nat → Prop
  | none => ∀ t, t < k → ∀ r, l[t]? = some r → ¬ r.due < now
  | some j => j < k ∧ ∃ s, l[j]? = some s ∧ s.due < now ∧ (∀ t, t < k → ∀ r, l[t]? = some r → r.due < now → s.due ≤ r.due) ∧ ∀ t, t < j → ∀ r, l[t]? = some r → r.due < now → s.due < r.due
def bz : Option Nat → Int
  | none => -1
  | some j => (j : Int)
theorem Best.start (l : List Ro) (now : Nat) : Best l now 0 none := fun t h => absurd h (Nat.not_lt_zero t)
theorem Best.skip {l : List Ro} {now k : Nat} {b : Option Nat} {r : Ro} (h : Best l now k b) (hr : l[k]? = some r) (hn : ¬ r.due < now) : Best l now (k + 1) b := by
  cases b with
  | none =>
    intro t ht s hs
    rcases Nat.lt_or_ge t k with h1 | h1
    · exact h t h1 s hs
    · obtain rfl : t = k := by omega
      rw [hr] at hs; cases hs; exact hn
  | some j =>
    obtain ⟨h0, s, h1, h2, h3, h4⟩ := h
    refine ⟨by omega, s, h1, h2, fun t ht q hq hl => ?_, h4⟩
    rcases Nat.lt_or_ge t k with h5 | h5
    · exact h3 t h5 q hq hl
    · obtain rfl : t = k := by omega
      rw [hr] at hq; cases hq; exact absurd hl hn
theorem Best.first {l : List Ro} {now k : Nat} {r : Ro} (h : Best l now k none) (hr : l[k]? = some r) (hn : r.due < now) : Best l now (k + 1) (some k) := by
  refine ⟨by omega, r, hr, hn, fun t ht q hq hl => ?_, fun t ht q hq hl => absurd hl (h t ht q hq)⟩
  rcases Nat.lt_or_ge t k with h5 | h5
  · exact absurd hl (h t h5 q hq)
  · obtain rfl : t = k := by omega
    rw [hr] at hq; cases hq; exact Nat.le_refl _
theorem Best.less {l : List Ro} {now k j : Nat} {r s : Ro} (h : Best l now k (some j)) (hs : l[j]? = some s) (hr : l[k]? = some r) (hn : r.due < now) (hl : r.due < s.due) : Best l now (k + 1) (some k) := by
  obtain ⟨h0, s', h1, h2, h3, h4⟩ := h
  rw [hs] at h1
  cases h1
  refine ⟨by omega, r, hr, hn, fun t ht q hq hl2 => ?_, fun t ht q hq hl2 => ?_⟩
  · rcases Nat.lt_or_ge t k with h5 | h5
    · have := h3 t h5 q hq hl2; omega
    · obtain rfl : t = k := by omega
      rw [hr] at hq; cases hq; exact Nat.le_refl _
  · have := h3 t ht q hq hl2; omega
theorem Best.more {l : List Ro} {now k j : Nat} {r s : Ro} (h : Best l now k (some j)) (hs : l[j]? = some s) (hr : l[k]? = some r) (hl : ¬ r.due < s.due) : Best l now (k + 1) (some j) := by
  obtain ⟨h0, s', h1, h2, h3, h4⟩ := h
  rw [hs] at h1
  cases h1
  refine ⟨by omega, s, hs, h2, fun t ht q hq hl2 => ?_, h4⟩
  rcases Nat.lt_or_ge t k with h5 | h5
  · exact h3 t h5 q hq hl2
  · obtain rfl : t = k := by omega
    rw [hr] at hq; cases hq; omega
theorem lexR_trans {a b c : Ro} (h1 : lexR a b) (h2 : lexR b c) : lexR a c := by unfold lexR at *; omega
theorem lexR_irrefl (a : Ro) : ¬ lexR a a := by unfold lexR; omega
/-- There is one sorted list. -/
theorem sorted_one : ∀ {s t : List Ro}, s.Perm t → s.Pairwise lexR → t.Pairwise lexR → s = t
  | [], t, p, _, _ => p.nil_eq
  | a :: s, [], p, _, _ => by have := p.length_eq; simp at this
  | a :: s, b :: t, p, hs, ht => by
    rw [List.pairwise_cons] at hs ht
    have e : a = b := by
      have h1 : a ∈ b :: t := p.mem_iff.1 List.mem_cons_self
      have h2 : b ∈ a :: s := p.mem_iff.2 List.mem_cons_self
      rcases List.mem_cons.1 h1 with h | h
      · exact h
      · rcases List.mem_cons.1 h2 with h' | h'
        · exact h'.symm
        · exact absurd (lexR_trans (hs.1 b h') (ht.1 a h)) (lexR_irrefl a)
    subst e
    rw [sorted_one ((List.perm_cons a).1 p) hs.2 ht.2]
theorem OvL.one {l s t : List Ro} (h : OvL l s) (k : OvL l t) : s = t := sorted_one (h.perm.trans k.perm.symm) h.asc k.asc
/-- What the rounds keep: what was told, S, and what is left. -/
structure Sel (m : List Ro) (now : Nat) (S L : List Ro) : Prop where
  perm : (S ++ lateL L now).Perm (lateL m now)
  asc : S.Pairwise lexR
  low : ∀ s ∈ S, ∀ r ∈ lateL L now, lexR s r
  ids : L.Pairwise fun a b => a.id < b.id
  len : L.length ≤ m.length
theorem Sel.start {m : List Ro} (h : m.Pairwise fun a b => a.id < b.id) (now : Nat) : Sel m now [] m := ⟨List.Perm.refl _, List.Pairwise.nil, (fun s h => by cases h), h, Nat.le_refl _⟩
theorem erase_perm {l : List Ro} {j : Nat} {s : Ro} (h : l[j]? = some s) : (s :: l.eraseIdx j).Perm l := by
  obtain ⟨hj, e⟩ := List.getElem?_eq_some_iff.1 h
  have h1 : l = l.take j ++ s :: l.drop (j + 1) := by
    rw [← e]
    rw [List.getElem_cons_drop, List.take_append_drop]
  rw [List.eraseIdx_eq_take_drop_succ]
  conv => rhs; rw [h1]
  exact List.perm_middle.symm
theorem Sel.step {m S L : List Ro} {now j : Nat} {s : Ro} (h : Sel m now S L) (hb : Best L now L.length (some j)) (hs : L[j]? = some s) : Sel m now (S ++ [s]) (L.eraseIdx j) := by
  obtain ⟨h0, s', h1, h2, h3, h4⟩ := hb
  rw [hs] at h1
  cases h1
  have hp := erase_perm hs
  have hl : (s :: lateL (L.eraseIdx j) now).Perm (lateL L now) := by
    have := hp.filter fun r => decide (r.due < now)
    rw [List.filter_cons_of_pos (by simpa using h2)] at this
    exact this
  have hlow : ∀ r ∈ lateL (L.eraseIdx j) now, lexR s r := by
    intro r hr
    have hr1 := List.mem_filter.1 hr
    have hd : r.due < now := by simpa using hr1.2
    obtain ⟨i, hi, e⟩ := List.mem_iff_getElem.1 hr1.1
    have e2 : (L.eraseIdx j)[i]? = some r := by rw [List.getElem?_eq_getElem hi, e]
    rw [List.getElem?_eraseIdx] at e2
    split at e2
    · rename_i hij
      exact .inl (h4 i hij r e2 hd)
    · rename_i hij
      have hlt : i + 1 < L.length := (List.getElem?_eq_some_iff.1 e2).1
      have := h3 (i + 1) hlt r e2 hd
      have := asc_at h.ids (show j < i + 1 by omega) hs e2
      unfold lexR
      omega
  refine ⟨?_, ?_, ?_, pw_erase h.ids j, Nat.le_trans (List.length_eraseIdx_le L j) h.len⟩
  · rw [List.append_assoc]
    exact (List.Perm.append_left S hl).trans h.perm
  · refine List.pairwise_append.2 ⟨h.asc, List.pairwise_singleton _ _, fun a ha b hb => ?_⟩
    obtain rfl := List.mem_singleton.1 hb
    exact h.low a ha b (hl.mem_iff.1 List.mem_cons_self)
  · intro a ha r hr
    rcases List.mem_append.1 ha with h5 | h5
    · exact h.low a h5 r (hl.mem_iff.1 (List.mem_cons_of_mem _ hr))
    · obtain rfl := List.mem_singleton.1 h5
      exact hlow r hr
theorem Sel.done {m S L : List Ro} {now : Nat} (h : Sel m now S L) (hb : Best L now L.length none) : OvL (lateL m now) S := by
  have e : lateL L now = [] := by
    refine List.filter_eq_nil_iff.2 fun r hr => ?_
    obtain ⟨i, hi, e⟩ := List.mem_iff_getElem.1 hr
    have := hb i hi r (by rw [List.getElem?_eq_getElem hi, e])
    simpa using this
  have := h.perm
  rw [e, List.append_nil] at this
  exact ⟨this, h.asc⟩
end Go.Proofs.Ytkekdbnmeobgiaa

/- Layer 18 (due): late, walked. -/
namespace Go.Proofs.Ytkekdbnmeobgiaa
set_option maxRecDepth 100000
set_option linter.unusedVariables false
set_option linter.unusedSimpArgs false
open Go.RowKit

def appTh (ty : TypeId) (args : Array Value) : Sem Value := Builtin.append_ #[38, 38] ty args
@[go_sem ↓ high] theorem app_Th (ty : TypeId) (args : Array Value) : Builtin.append_ #[38, 38] ty args = appTh ty args := rfl
theorem encR_oneL (l : List Ro) : ∀ u ∈ l.flatMap encR, u.oneCell' = true := fun u hu => by
  simp only [List.mem_flatMap] at hu
  obtain ⟨r, _, hr⟩ := hu
  exact encR_one r u hr
/-- A list of things behind one of the call's own. -/
theorem OwnT.apps {B : Nat} {w : World} {v : Value} {l m : List Ro} (h : OwnT B w v l) (a : Option Addr) (n c : Nat) (hn : n = m.length) (hs : Sl w 3 a c n (m.flatMap encR)) (hB : B ≤ w.heap.size) (hl : l.length + n ≤ 100000) (ty : TypeId) :
    ∃ a' n' c' w', (appTh ty #[v, .slice a n c]).run Try.prog w = .ok (.slice a' n' c') w' ∧ OwnT B w' (.slice a' n' c') (l ++ m) ∧ Fr (fun k => v.ownBlock = some k) w w' := by
  obtain ⟨i0, hi, hz, hsz, hb⟩ := info_parts Try.infoThing18
  obtain ⟨v', w', hrun, hown, hg, hnw⟩ := run_app (P := Try.prog) (w := w) 38 ty 42 i0 _ 3 32 Try.underlying38 hi hz hsz hb rfl (by decide) v l.length _ h.own a c n _ hs (encR_oneL m) (by unfold maxLen; omega) (by omega)
  obtain ⟨a', c', rfl⟩ := own_slice hown
  refine ⟨a', _, c', w', hrun, ⟨?_, fun k hk => ?_⟩, (Fr.refl _ w).grown hg fun k hk hl => hk⟩
  · rw [List.length_append, List.flatMap_append, ← hn]
    exact hown
  · rcases hnw k hk with e | e
    · exact h.blk k e
    · omega
/-- A list that was just made, with no room. -/
theorem OwnT.made (w : World) : OwnT w.heap.size (w.alloc (.cells #[] 42)) (.slice (some ⟨w.heap.size, 0, none⟩) 0 0) [] :=
  ⟨World.ownsRow_made (base := 0) w #[] 0 (Nat.zero_le _) (Nat.zero_le _) rfl, fun k hk => by cases hk; exact Nat.le_refl _⟩
theorem OwnT.clone {B : Nat} {w : World} {a : Option Addr} {n c : Nat} {l : List Ro} (h : OwnT B w (.slice a n c) l) (hl : n ≤ 100000) (ty : TypeId) :
    ∃ a' n' c' w', (appTh ty #[.slice (some ⟨w.heap.size, 0, none⟩) 0 0, .slice a n c]).run Try.prog (w.alloc (.cells #[] 42)) = .ok (.slice a' n' c') w' ∧ OwnT w.heap.size w' (.slice a' n' c') l ∧ Fr F0 w w' := by
  have f1 : Fr F0 w (w.alloc (.cells #[] 42)) := (Fr.refl F0 w).alloc _
  have hn := h.len
  have hs := (Sl.of_own h.own).2
  obtain ⟨a', n', c', w', hr, ho, hf⟩ := (OwnT.made w).apps a n c hn (hs.fr f1 fun _ _ x => x) f1.size (by simp; omega) ty
  exact ⟨a', n', c', w', hr, by simpa using ho, f1.trans hf fun i hi e => by cases e; exact absurd hi (Nat.lt_irrefl _)⟩
theorem Sl.headR {w : World} {g n c i : Nat} {l : List Ro} (h : Sl w 3 (some ⟨g, 0, none⟩) c n (l.flatMap encR)) (hn : n = l.length) (hi : i ≤ n) : Sl w 3 (some ⟨g, 0, none⟩) c i ((l.take i).flatMap encR) := by
  refine ⟨by rw [flat_lenE encR_len, List.length_take]; omega, Nat.le_trans hi h.room, h.most, (fun e => by cases e), fun j u hj => h.cell j u ?_⟩
  rw [← flat_take, List.getElem?_take] at hj
  split at hj
  · exact hj
  · cases hj
theorem Sl.tailR {w : World} {g n c i o : Nat} {l : List Ro} (h : Sl w 3 (some ⟨g, 0, none⟩) c n (l.flatMap encR)) (hn : n = l.length) (hi : i ≤ n) (ho : o = i * 3 ∨ n = i) : Sl w 3 (some ⟨g, o, none⟩) (c - i) (n - i) ((l.drop i).flatMap encR) := by
  have hr := h.room
  have hm := h.most
  refine ⟨by rw [flat_lenE encR_len, List.length_drop]; omega, by omega, by omega, (fun e => by cases e), fun j u hj => ?_⟩
  have hj' : j < (n - i) * 3 := by have := (List.getElem?_eq_some_iff.1 hj).1; rw [flat_lenE encR_len, List.length_drop] at this; omega
  obtain rfl : o = i * 3 := ho.resolve_right (by omega)
  rw [← flat_drop, List.getElem?_drop] at hj
  obtain ⟨b, off, e, hc⟩ := h.cell _ u hj
  simp only [Option.some.injEq, Addr.mk.injEq, and_true] at e
  obtain ⟨rfl, rfl⟩ := e
  exact ⟨_, _, rfl, by rw [Nat.zero_add] at hc; exact hc⟩
/-- append(append([]thing{}, l[:i]...), l[i+1:]...). -/
theorem OwnT.erase {B : Nat} {w : World} {g n c i i1 o : Nat} {l : List Ro} (h : OwnT B w (.slice (some ⟨g, 0, none⟩) n c) l) (hi1 : i + 1 = i1) (hi : i < n) (hl : n ≤ 100000) (ho : o = if c = i1 then 0 else i1 * 3) (ty ty2 : TypeId) :
    ∃ a5 n5 c5 w5 a6 n6 c6 w6, (appTh ty #[.slice (some ⟨w.heap.size, 0, none⟩) 0 0, .slice (some ⟨g, 0, none⟩) i c]).run Try.prog (w.alloc (.cells #[] 42)) = .ok (.slice a5 n5 c5) w5 ∧
      (appTh ty2 #[.slice a5 n5 c5, .slice (some ⟨g, o, none⟩) (n - i1) (c - i1)]).run Try.prog w5 = .ok (.slice a6 n6 c6) w6 ∧ OwnT w.heap.size w6 (.slice a6 n6 c6) (l.eraseIdx i) ∧ Fr F0 w w6 := by
  have f1 : Fr F0 w (w.alloc (.cells #[] 42)) := (Fr.refl F0 w).alloc _
  have hn := h.len
  have hs := (Sl.of_own h.own).2
  have hlc := hs.room
  obtain ⟨a5, n5, c5, w5, hr, ho5, hf⟩ := (OwnT.made w).apps (some ⟨g, 0, none⟩) i c (m := l.take i) (by rw [List.length_take]; omega) ((hs.fr f1 fun _ _ x => x).headR hn (by omega)) f1.size (by simp; omega) ty
  have f5 : Fr F0 w w5 := f1.trans hf fun i hi e => by cases e; exact absurd hi (Nat.lt_irrefl _)
  rw [List.nil_append] at ho5
  have hs5 := hs.fr f5 fun _ _ x => x
  obtain ⟨a6, n6, c6, w6, hr6, ho6, hf6⟩ := ho5.apps (some ⟨g, o, none⟩) (n - i1) (c - i1) (m := l.drop i1) (by rw [List.length_drop]; omega) (hs5.tailR hn (by omega) (by
    rw [ho]
    by_cases hc : c = i1
    · exact .inr (by omega)
    · rw [if_neg hc]; exact .inl rfl)) f5.size (by rw [List.length_take]; omega) ty2
  refine ⟨a5, n5, c5, w5, a6, n6, c6, w6, hr, hr6, ?_, f5.trans hf6 fun k hk e => absurd hk (Nat.not_lt.2 (ho5.blk k e))⟩
  rw [List.eraseIdx_eq_take_drop_succ, hi1]
  exact ho6

set_option maxRecDepth 100000 in
set_option maxHeartbeats 16000000 in
theorem late18_any {B : Nat} {w : World} {a : Option Addr} {n c : Nat} {m : List Ro} (h : OwnT B w (.slice a n c) m) (ha : m.Pairwise fun a b => a.id < b.id) (hl : m.length ≤ 10000) (now : Nat) :
    Calls Try.prog 14 #[.slice a n c, .int .u64 (now : Int)] w fun e w' => ∃ a' n' c' S, e = .returned (.slice a' n' c') ∧ OwnN w.heap.size w' (.slice a' n' c') (S.map Ro.id) ∧ OvL (lateL m now) S ∧ Fr F0 w w' := by
  have hnl := h.len
  obtain ⟨a1, n1, c1, w1, hrun, ho1, f1⟩ := OwnT.clone h (by omega) 38
  have H1 := Lib.hid (And.intro ho1 f1)
  have HL := Lib.hid (And.intro ha hl)
  clear h ho1 f1 ha hl hnl
  go_enter Try.func14, Try.ntmps14
  go_wp2_with fail
  go_loopw [5, 6] (fun x y wr => ∃ (S L : List Ro) (a n c : _) (b : Option Addr) (k d : Nat), x = .slice a n c ∧ y = .slice b k d ∧ Sel m now S L ∧ OwnN w.heap.size wr (.slice a n c) (S.map Ro.id) ∧ OwnT w.heap.size wr (.slice b k d) L ∧ Fr F0 w wr) (fun _ y _ => match y with | .slice _ k _ => k | _ => 0)
  case atStart => exact ⟨[], m, _, _, _, _, _, _, rfl, rfl, Sel.start HL.out.1 now, OwnE.nil _ _, H1.out.1, H1.out.2⟩
  case round =>
    obtain ⟨S, L, ao, no, co, al, nl, cl, rfl, rfl, hS, oo, ol, F⟩ := hrel
    have hnl := ol.len
    have HI := Lib.hid (And.intro hS (And.intro oo (And.intro ol F)))
    have hlb : nl ≤ 10000 := by have := hS.len; have := HL.out.2; omega
    replace hnl := Lib.hid hnl
    clear hS oo ol F H1 hrun
    generalize wr = wq at *
    go_wp2_with fail
    go_loopw [7, 15] (fun x y wr => ∃ (k : Nat) (b : Option Nat), x = .int .i64 (bz b) ∧ y = .int .i64 (k : Int) ∧ k ≤ nl ∧ Best L now k b ∧ Fr F0 wq wr) (fun _ y _ => nl - (intOf y).toNat)
    case atStart => exact ⟨0, none, rfl, rfl, Nat.zero_le _, Best.start _ _, Fr.refl _ _⟩
    case round =>
      obtain ⟨k, b, rfl, rfl, hk, hb, f⟩ := hrel
      have HB := Lib.hid (And.intro hb f)
      clear hb f
      by_cases hlt : k < nl
      · have l1 : (k : Int) < (nl : Int) := by omega
        obtain ⟨g, rfl⟩ := OwnT.place HI.out.2.2.1 hlt
        have ol := HI.out.2.2.1.fr0 HB.out.2
        have hr := List.getElem?_eq_getElem (show k < L.length by have := hnl.out; omega)
        have hld := OwnT.load ol k _ hr
        obtain ⟨r, hre⟩ : ∃ r, L[k]'(by have := hnl.out; omega) = r := ⟨_, rfl⟩
        rw [hre] at hr hld
        have HR := Lib.hid (And.intro hr ol)
        have k1 : IntKind.i64.wrap ((k : Int) + 1) = ((k + 1 : Nat) : Int) := by rw [IntWalk.i64_in _ (by omega)]; omega
        obtain ⟨ri, rd, rx⟩ := r
        have oS := rowOne_R (ri : Int) (rd : Int) rx
        clear hr hre ol
        go_upto_region 7 with fail
        refine wp_put fun W3 N => ?_
        have r9 := N.new
        have F3 := Lib.hid N.fr
        clear N hld
        obtain ⟨g9, hg9⟩ : ∃ g, wr.heap.size = g := ⟨_, rfl⟩
        rw [hg9] at r9 ⊢
        clear hg9
        by_cases hd : rd < now
        · have d1 : decide ((rd : Int) < (now : Int)) = true := decide_eq_true (by omega)
          have d2 : (rd : Int) < (now : Int) := by omega
          have HD := Lib.hid hd
          clear hd
          cases b with
          | none =>
            refine rbegin (S := (fun w' => w'.heap[g9]? = some (.cells #[.int .u64 (ri : Int), .int .u64 (rd : Int), .string rx] 42 (0, 0)))) ?_ fun hHeld => ?_
            · ((try dsimp only) <;> (exact r9))
            refine rtake 0 ?_
            refine rtake 1 ?_
            refine rtake 2 ?_
            refine rtake 3 ?_
            refine rtake 4 ?_
            refine rtake 5 ?_
            refine rtake 6 ?_
            refine rtake 7 ?_
            refine rleave 8 ?_
            refine rleave 9 ?_
            refine rleave 10 ?_
            refine rleave 11 ?_
            refine rleave 12 ?_
            refine rleave 13 ?_
            refine rleave 14 ?_
            refine rleave 15 ?_
            refine rtake 16 ?_
            refine rtake 17 ?_
            refine rdone ?_
            go_wp2_with fail
            go_roundw
            case rel => exact ⟨k + 1, some k, rfl, rfl, by omega, HB.out.1.first HR.out.1 HD.out, (HB.out.2.trans' F3.out).drew⟩
            case measure => simp [intOf]; omega
          | some j =>
            have hjk := HB.out.1.1
            obtain ⟨s, hs, -⟩ := HB.out.1.2
            have c2 : Obj.cellAt (j * 3 + 1) W3.heap[g]? = some (.int .u64 (s.due : Int)) := OwnT.cell (HR.out.2.fr0 F3.out) j 1 s _ hs rfl
            have hjn : j < nl := by omega
            have HS := Lib.hid hs
            obtain ⟨si, sd, sx⟩ := s
            dsimp only at c2
            clear hs
            have b1 : bz (some j) = (j : Int) := rfl
            rw [b1]
            by_cases hq : rd < sd
            · have q1 : decide ((rd : Int) < (sd : Int)) = true := decide_eq_true (by omega)
              have HQ := Lib.hid hq
              refine rbegin (S := (fun w' => w'.heap[g9]? = some (.cells #[.int .u64 (ri : Int), .int .u64 (rd : Int), .string rx] 42 (0, 0)) ∧ Obj.cellAt (j * 3 + 1) w'.heap[g]? = some (.int .u64 (sd : Int)))) ?_ fun hHeld => ?_
              · ((try dsimp only) <;> (exact ⟨r9, c2⟩))
              refine rtake 0 ?_
              refine rtake 1 ?_
              refine rtake 2 ?_
              refine rtake 3 ?_
              refine rtake 4 ?_
              refine rtake 5 ?_
              refine rtake 6 ?_
              refine rtake 7 ?_
              refine rtake 8 ?_
              refine rtake 9 ?_
              refine rtake 10 ?_
              refine rtake 11 ?_
              refine rtake 12 ?_
              refine rtake 13 ?_
              refine rtake 14 ?_
              refine rtake 15 ?_
              refine rtake 16 ?_
              refine rtake 17 ?_
              refine rdone ?_
              go_wp2_with fail
              go_roundw
              case rel => exact ⟨k + 1, some k, rfl, rfl, by omega, HB.out.1.less HS.out HR.out.1 HD.out HQ.out, (HB.out.2.trans' F3.out).drew⟩
              case measure => simp [intOf]; omega
            · have q1 : decide ((rd : Int) < (sd : Int)) = false := decide_eq_false (by omega)
              have HQ := Lib.hid hq
              refine rbegin (S := (fun w' => w'.heap[g9]? = some (.cells #[.int .u64 (ri : Int), .int .u64 (rd : Int), .string rx] 42 (0, 0)) ∧ Obj.cellAt (j * 3 + 1) w'.heap[g]? = some (.int .u64 (sd : Int)))) ?_ fun hHeld => ?_
              · ((try dsimp only) <;> (exact ⟨r9, c2⟩))
              refine rtake 0 ?_
              refine rtake 1 ?_
              refine rtake 2 ?_
              refine rtake 3 ?_
              refine rtake 4 ?_
              refine rtake 5 ?_
              refine rtake 6 ?_
              refine rtake 7 ?_
              refine rtake 8 ?_
              refine rtake 9 ?_
              refine rtake 10 ?_
              refine rtake 11 ?_
              refine rtake 12 ?_
              refine rtake 13 ?_
              refine rtake 14 ?_
              refine rtake 15 ?_
              refine rtake 16 ?_
              refine rtake 17 ?_
              refine rdone ?_
              go_wp2_with fail
              go_roundw
              case rel => exact ⟨k + 1, some j, rfl, rfl, by omega, HB.out.1.more HS.out HR.out.1 HQ.out, (HB.out.2.trans' F3.out).drew⟩
              case measure => simp [intOf]; omega
        · have d1 : decide ((rd : Int) < (now : Int)) = false := decide_eq_false (by omega)
          have d2 : ¬ (rd : Int) < (now : Int) := by omega
          have HD := Lib.hid hd
          clear hd
          refine rbegin (S := (fun w' => w'.heap[g9]? = some (.cells #[.int .u64 (ri : Int), .int .u64 (rd : Int), .string rx] 42 (0, 0)))) ?_ fun hHeld => ?_
          · ((try dsimp only) <;> (exact r9))
          refine rtake 0 ?_
          refine rtake 1 ?_
          refine rtake 2 ?_
          refine rtake 3 ?_
          refine rtake 4 ?_
          refine rleave 5 ?_
          refine rleave 6 ?_
          refine rleave 7 ?_
          refine rleave 8 ?_
          refine rleave 9 ?_
          refine rleave 10 ?_
          refine rleave 11 ?_
          refine rleave 12 ?_
          refine rleave 13 ?_
          refine rleave 14 ?_
          refine rleave 15 ?_
          refine rleave 16 ?_
          refine rtake 17 ?_
          refine rdone ?_
          go_wp2_with fail
          go_roundw
          case rel => exact ⟨k + 1, b, rfl, rfl, by omega, HB.out.1.skip HR.out.1 HD.out, (HB.out.2.trans' F3.out).drew⟩
          case measure => simp [intOf]; omega
      · obtain rfl : k = nl := by omega
        have l1 : ¬ (k : Int) < (k : Int) := by omega
        have hbl : Hid (Best L now L.length b) := Lib.hid (by rw [← hnl.out]; exact HB.out.1)
        cases b with
        | none =>
          have b1 : bz none = -1 := rfl
          rw [b1]
          clear hlt
          go_wp2_with fail
          go_ret
          exact ⟨_, _, _, rfl, S, HI.out.2.1.fr0 HB.out.2, HI.out.1.done hbl.out, HI.out.2.2.2.trans' HB.out.2⟩
        | some j =>
          have b1 : bz (some j) = (j : Int) := rfl
          rw [b1]
          have hjk := HB.out.1.1
          obtain ⟨s, hs, -⟩ := HB.out.1.2
          obtain ⟨g, rfl⟩ := OwnT.place HI.out.2.2.1 hjk
          have ol := HI.out.2.2.1.fr0 HB.out.2
          have oo := HI.out.2.1.fr0 HB.out.2
          have c0 : Obj.cellAt (j * 3) wr.heap[g]? = some (.int .u64 (s.id : Int)) := OwnT.cell ol j 0 s _ hs rfl
          have hSl : (S.map Ro.id).length ≤ 100000 := by
            have h1 := HI.out.1.perm.length_eq
            rw [List.length_append] at h1
            have h2 : (lateL m now).length ≤ m.length := List.length_filter_le _ _
            have := HL.out.2
            rw [List.length_map]
            omega
          have hsz : w.heap.size ≤ wr.heap.size := (HI.out.2.2.2.trans' HB.out.2).size
          obtain ⟨a5, c5, w5, happ, o5, f5, s5⟩ := OwnN.app oo s.id hsz hSl 22
          have hno := oo.len
          rw [← hno] at happ o5
          have ol5 : OwnT w.heap.size w5 (.slice (some ⟨g, 0, none⟩) k cl) L := ol.frS f5 fun q hq e => by
            obtain ⟨cur, hc⟩ := ol.kind hq
            exact oo.other hc (by decide) e
          obtain ⟨j1, hj1⟩ : ∃ j1, j + 1 = j1 := ⟨_, rfl⟩
          obtain ⟨o, ho⟩ : ∃ o, o = if cl = j1 then 0 else j1 * 3 := ⟨_, rfl⟩
          obtain ⟨a6, n6, c6, w6, a7, n7, c7, w7, r6, r7, o7, f7⟩ := OwnT.erase (ol5.fr0 (Fr.refl F0 w5).drew) hj1 hjk (by omega) ho 38 38
          replace r6 : (appTh 38 #[.slice (some ⟨w5.heap.size, 0, none⟩) 0 0, .slice (some ⟨g, 0, none⟩) j cl]).run Try.prog (w5.alloc (.cells #[] 42)).drew = .ok (.slice a6 n6 c6) w6 := r6
          have F5 : Fr F0 w w5 := (HI.out.2.2.2.trans' HB.out.2).trans f5 fun q hq e => absurd hq (Nat.not_lt.2 (oo.blk q e))
          have F7 : Fr F0 w5 w7 := (Fr.refl F0 w5).drew.trans' f7
          have HZ := Lib.hid (And.intro (o5.fr0 F7) (And.intro (o7.mono F5.size) (And.intro (F5.trans' F7) (HI.out.1.step hbl.out hs))))
          have hn7 : n7 + 1 = k := by
            have h1 := o7.len
            have h2 : (L.eraseIdx j).length = L.length - 1 := List.length_eraseIdx_of_lt (by have := hnl.out; omega)
            have := hnl.out
            omega
          have hcl : k ≤ cl := (Sl.of_own ol.own).2.room
          have k1 : IntKind.i64.wrap ((j : Int) + 1) = (j1 : Int) := by rw [IntWalk.i64_in _ (by omega)]; omega
          have g1 : j ≤ cl := by omega
          have g2 : j1 ≤ cl := by omega
          have g3 : j1 ≤ k := by omega
          have HJ := Lib.hid (And.intro hn7 hj1)
          obtain ⟨si, sd, sx⟩ := s
          dsimp only at c0 happ
          have HS := Lib.hid hs
          clear hlt hs ol oo hSl hsz f5 ol5 o5 s5 o7 f7 F5 F7 hn7 hno HB HI hj1
          generalize no + 1 = n5 at *
          by_cases hc : cl = j1
          · obtain rfl : o = 0 := by rw [ho, if_pos hc]
            clear ho
            subst hc
            rw [Nat.sub_self, show k - cl = 0 by omega] at r7
            go_upto_region 13 with fail
            refine rbegin (S := (fun _ => True)) ?_ fun hHeld => ?_
            · ((try dsimp only) <;> (trivial))
            refine rtake 1 ?_
            refine rtake 2 ?_
            refine rtake 3 ?_
            refine rtake 5 ?_
            refine rtake 6 ?_
            refine rtake 7 ?_
            refine rtake 8 ?_
            refine rone 0 fun K hK => ?_
            go_simp
            refine hK.out _ _ ?_ (fun hHeld => ?_)
            · ((try dsimp only) <;> (trivial))
            clear hK K
            try (simp only [Act.put, aST]; dsimp only [aS0, aS1])
            refine rone 4 fun K hK => ?_
            go_simp
            refine hK.out _ _ ?_ (fun hHeld => ?_)
            · ((try dsimp only) <;> (trivial))
            clear hK K
            try (simp only [Act.put, aST]; dsimp only [aS0, aS1])
            refine rone 9 fun K hK => ?_
            go_simp
            refine hK.out _ _ ?_ (fun hHeld => ?_)
            · ((try dsimp only) <;> (trivial))
            clear hK K
            try (simp only [Act.put, aST]; dsimp only [aS0, aS1])
            refine rtake 10 ?_
            refine rdone ?_
            go_wp2_with fail
            go_roundw
            case rel => exact ⟨_, _, _, _, _, _, _, _, rfl, rfl, HZ.out.2.2.2, by rw [List.map_append]; exact HZ.out.1, HZ.out.2.1, HZ.out.2.2.1⟩
            case measure => show n7 < k; have := HJ.out.1; omega
          · obtain rfl : o = j1 * 3 := by rw [ho, if_neg hc]
            clear ho
            go_upto_region 13 with fail
            refine rbegin (S := (fun _ => True)) ?_ fun hHeld => ?_
            · ((try dsimp only) <;> (trivial))
            refine rtake 1 ?_
            refine rtake 2 ?_
            refine rtake 3 ?_
            refine rtake 5 ?_
            refine rtake 6 ?_
            refine rtake 7 ?_
            refine rtake 8 ?_
            refine rone 0 fun K hK => ?_
            go_simp
            refine hK.out _ _ ?_ (fun hHeld => ?_)
            · ((try dsimp only) <;> (trivial))
            clear hK K
            try (simp only [Act.put, aST]; dsimp only [aS0, aS1])
            refine rone 4 fun K hK => ?_
            go_simp
            refine hK.out _ _ ?_ (fun hHeld => ?_)
            · ((try dsimp only) <;> (trivial))
            clear hK K
            try (simp only [Act.put, aST]; dsimp only [aS0, aS1])
            refine rone 9 fun K hK => ?_
            go_simp
            refine hK.out _ _ ?_ (fun hHeld => ?_)
            · ((try dsimp only) <;> (trivial))
            clear hK K
            try (simp only [Act.put, aST]; dsimp only [aS0, aS1])
            refine rtake 10 ?_
            refine rdone ?_
            go_wp2_with fail
            go_roundw
            case rel => exact ⟨_, _, _, _, _, _, _, _, rfl, rfl, HZ.out.2.2.2, by rw [List.map_append]; exact HZ.out.1, HZ.out.2.1, HZ.out.2.2.1⟩
            case measure => show n7 < k; have := HJ.out.1; omega
end Go.Proofs.Ytkekdbnmeobgiaa

/- Layer 18 (due): does a table tell what the model has? -/
namespace Go.Proofs.Ytkekdbnmeobgiaa
set_option maxRecDepth 100000
set_option linter.unusedVariables false
set_option linter.unusedSimpArgs false
open Go.RowKit

theorem OwnE.cell1 {α : Type} {e : Nat} {enc : α → List Value} (he : ∀ x, (enc x).length = 1) {B : Nat} {w : World} {g n c : Nat} {l : List α} (h : OwnE e 1 enc B w (.slice (some ⟨g, 0, none⟩) n c) l) (i : Nat) (x : α) (u : Value) (hx : l[i]? = some x) (hu : (enc x)[0]? = some u) :
    Obj.cellAt i w.heap[g]? = some u := by
  have := h.own.cells (g := g) rfl i u (by have := flat_getE he l i 0 x hx (by decide); rw [Nat.mul_one, Nat.add_zero] at this; rw [this]; exact hu)
  rw [Addr.add_lit, Nat.zero_add, cell_at] at this
  exact this
theorem OwnE.place1 {α : Type} {e size : Nat} {enc : α → List Value} {B : Nat} {w : World} {a : Option Addr} {n c i : Nat} {l : List α} (h : OwnE e size enc B w (.slice a n c) l) (hi : i < n) : ∃ g, a = some ⟨g, 0, none⟩ := by
  rcases OwnE.row h with ⟨h1, h2⟩ | ⟨g, c', h1, -⟩
  · cases h1; omega
  · cases h1; exact ⟨g, rfl⟩
set_option maxRecDepth 100000 in
set_option maxHeartbeats 16000000 in
theorem is18_any {B C : Nat} {w : World} {p most last : Nat} {v : Value} {l : List Ro} {a : Option Addr} {n c : Nat} (d : DT B w p most last v l) (h : OwnT C w (.slice a n c) l) :
    Calls Try.prog 18 #[.pointer (some ⟨p, 0, none⟩), .slice a n c] w fun e w' => e = .returned (.bool true) ∧ Fr F0 w w' := by
  have hn := h.len
  have hl := d.l256
  have H0 := Lib.hid (And.intro d h)
  have HA := Lib.hid (dAll_any d)
  have HLn := Lib.hid (fun W (f : Fr F0 w W) => dLen_any (d.fr0 f))
  rw [← hn] at HLn hl
  replace hn := Lib.hid hn
  clear d h
  go_enter Try.func18, Try.ntmps18
  go_wp2_with fail
  (with_reducible refine HA.out.mono ?_); rintro e w1 ⟨gb, v1, rfl, r1, o1, f1⟩
  have HB := Lib.hid (all18_any (show RowsB w.heap.size gb v1 l w1 from ⟨r1, o1⟩) (by have := hn.out; omega))
  have F1 := Lib.hid f1
  clear f1 r1 o1 HA
  go_wp2_with fail
  (with_reducible refine HB.out.mono ?_); rintro e w2 ⟨aI, nI, cI, aX, nX, cX, rfl, oI, oX, f2⟩
  have e1 := oI.len
  have e2 := oX.len
  rw [List.length_map, ← hn.out] at e1 e2
  subst e1 e2
  have H2 := Lib.hid (And.intro oI (And.intro oX (F1.out.trans' f2)))
  have HL2 := Lib.hid (HLn.out w2 H2.out.2.2)
  clear oI oX f2 HB F1 HLn
  go_wp2_with fail
  (with_reducible refine HL2.out.mono ?_); rintro e w3 ⟨rfl, hw⟩; replace hw := hw.symm; subst hw
  go_wp2_with fail
  go_loopw [32] (fun iv wr => ∃ k : Nat, iv = .int .i64 (k : Int) ∧ k ≤ nX ∧ Fr F0 w2 wr) (fun iv _ => nX - (intOf iv).toNat)
  case atStart => exact ⟨0, rfl, Nat.zero_le _, Fr.refl _ _⟩
  case round =>
    obtain ⟨k, rfl, hk, f⟩ := hrel
    have F := Lib.hid f
    clear f
    by_cases hlt : k < nX
    · have l1 : (k : Int) < (nX : Int) := by omega
      have hr := List.getElem?_eq_getElem (show k < l.length by have := hn.out; omega)
      obtain ⟨r, hre⟩ : ∃ r, l[k]'(by have := hn.out; omega) = r := ⟨_, rfl⟩
      rw [hre] at hr
      obtain ⟨g, rfl⟩ := OwnE.place1 H0.out.2 hlt
      obtain ⟨gi, rfl⟩ := OwnE.place1 H2.out.1 hlt
      obtain ⟨gx, rfl⟩ := OwnE.place1 H2.out.2.1 hlt
      have hld := OwnT.load (H0.out.2.fr0 (H2.out.2.2.trans' F.out)) k _ hr
      have k1 : IntKind.i64.wrap ((k : Int) + 1) = ((k + 1 : Nat) : Int) := by rw [IntWalk.i64_in _ (by omega)]; omega
      have HG := Lib.hid (fun W (f : Fr F0 wr W) => dGet_yes (H0.out.1.fr0 ((H2.out.2.2.trans' F.out).trans' f)) (show AtR l r.id k r from ⟨hr, rfl⟩))
      have HI := Lib.hid (fun W (f : Fr F0 wr W) => OwnE.cell1 (enc := encNu) (fun _ => rfl) (H2.out.1.fr0 (F.out.trans' f)) k r.id (.int .u64 (r.id : Int)) (by rw [List.getElem?_map, hr]; rfl) rfl)
      have HX := Lib.hid (fun W (f : Fr F0 wr W) => OwnE.cell1 (enc := encSt) (fun _ => rfl) (H2.out.2.1.fr0 (F.out.trans' f)) k r.x (.string r.x) (by rw [List.getElem?_map, hr]; rfl) rfl)
      have HR := Lib.hid hr
      clear hr hre
      obtain ⟨ri, rd, rx⟩ := r
      dsimp only at hld HG HI HX
      have oS := rowOne_R (ri : Int) (rd : Int) rx
      go_upto_region 7 with fail
      refine wp_put fun W3 N => ?_
      have r8 := N.new
      have f3 := N.fr
      clear N hld
      obtain ⟨g8, hg8⟩ : ∃ g, wr.heap.size = g := ⟨_, rfl⟩
      rw [hg8] at r8 ⊢
      clear hg8
      have HG3 := Lib.hid (HG.out W3 f3)
      have F3 := Lib.hid f3
      clear f3 HG
      go_wp2_with fail
      (with_reducible refine HG3.out.mono ?_); rintro e w4 ⟨rfl, f4⟩
      replace r8 := keep_fr f4 r8
      have F4 := Lib.hid (F3.out.trans' f4)
      have c1 := HI.out w4 F4.out
      have c2 := HX.out w4 F4.out
      clear f4 HG3 HI HX F3
      go_upto_region 8 with fail
      refine rbegin (S := (fun w' => w'.heap[g8]? = some (.cells #[.int .u64 (ri : Int), .int .u64 (rd : Int), .string rx] 42 (0, 0)) ∧ Obj.cellAt k w'.heap[gi]? = some (.int .u64 (ri : Int)) ∧ Obj.cellAt k w'.heap[gx]? = some (.string rx))) ?_ fun hHeld => ?_
      · ((try dsimp only) <;> (exact ⟨r8, c1, c2⟩))
      refine rtake 0 ?_
      refine rtake 1 ?_
      refine rtake 2 ?_
      refine rtake 3 ?_
      refine rtake 4 ?_
      refine rtake 5 ?_
      refine rtake 6 ?_
      refine rtake 7 ?_
      refine rtake 8 ?_
      refine rtake 9 ?_
      refine rtake 10 ?_
      refine rtake 11 ?_
      refine rtake 12 ?_
      refine rtake 13 ?_
      refine rtake 14 ?_
      refine rtake 15 ?_
      refine rtake 16 ?_
      refine rtake 17 ?_
      refine rtake 18 ?_
      refine rtake 19 ?_
      refine rtake 20 ?_
      refine rtake 21 ?_
      refine rtake 22 ?_
      refine rtake 23 ?_
      refine rtake 24 ?_
      refine rtake 25 ?_
      refine rtake 26 ?_
      refine rtake 27 ?_
      refine rtake 28 ?_
      refine rtake 29 ?_
      refine rtake 30 ?_
      refine rtake 31 ?_
      refine rdone ?_
      go_wp2_with fail
      go_roundw
      case rel => exact ⟨k + 1, rfl, by omega, (F.out.trans' F4.out).drew⟩
      case measure => simp [intOf]; omega
    · obtain rfl : k = nX := by omega
      have l1 : ¬ (k : Int) < (k : Int) := by omega
      go_wp2_with fail
      go_ret
      exact ⟨rfl, H2.out.2.2.trans' F.out⟩
end Go.Proofs.Ytkekdbnmeobgiaa

/- Layer 18's law DueGrows, walked. -/
namespace Go.Proofs.Ytkekdbnmeobgiaa
set_option maxRecDepth 100000
set_option linter.unusedVariables false
set_option linter.unusedSimpArgs false
open Go.RowKit

theorem filter_prefix (now : Nat) : ∀ {s : List Ro}, s.Pairwise lexR → lateL s now <+: s
  | [], _ => List.prefix_refl _
  | x :: s, h => by
    rw [List.pairwise_cons] at h
    unfold lateL
    by_cases hx : x.due < now
    · rw [List.filter_cons_of_pos (by simpa using hx)]
      exact (List.prefix_cons_inj x).2 (filter_prefix now h.2)
    · rw [List.filter_cons_of_neg (by simpa using hx), List.filter_eq_nil_iff.2 fun r hr => ?_]
      · exact List.nil_prefix
      · have := h.1 r hr
        unfold lexR at this
        simp
        omega
theorem lateL_lateL (l : List Ro) {a b : Nat} (h : a ≤ b) : lateL (lateL l b) a = lateL l a := by
  unfold lateL
  rw [List.filter_filter]
  refine List.filter_congr fun r _ => ?_
  by_cases h1 : r.due < a
  · simp [h1, show r.due < b by omega]
  · simp [h1]
/-- Whoever is late at a tick stands in the same order at a later one. -/
theorem OvL.grows {l s t : List Ro} {a b : Nat} (h : a ≤ b) (hs : OvL (lateL l a) s) (ht : OvL (lateL l b) t) : s.length ≤ t.length ∧ s = t.take s.length := by
  have hp := filter_prefix a ht.asc
  have e : s = lateL t a := by
    refine sorted_one ?_ hs.asc (ht.asc.sublist List.filter_sublist)
    refine hs.perm.trans ?_
    rw [← lateL_lateL l h]
    exact (ht.perm.filter _).symm
  rw [← e] at hp
  exact ⟨hp.length_le, List.prefix_iff_eq_take.1 hp⟩
theorem dmin_is (x y z : Nat) (h : min x y = z) : (if (y : Int) < (x : Int) then (y : Int) else (x : Int)) = (z : Int) := by split <;> omega
theorem dmax_is (x y z : Nat) (h : max x y = z) : (if (x : Int) < (y : Int) then (y : Int) else (x : Int)) = (z : Int) := by split <;> omega
theorem run_dmin (ts : Array TypeId) (t : TypeId) (x y z : Nat) (h : min x y = z) (w : World) : (Builtin.min_ ts t #[.int .u64 (x : Int), .int .u64 (y : Int)]).run Try.prog w = .ok (.int .u64 (z : Int)) w := by rw [run_min_int2, dmin_is x y z h]
theorem run_dmax (ts : Array TypeId) (t : TypeId) (x y z : Nat) (h : max x y = z) (w : World) : (Builtin.max_ ts t #[.int .u64 (x : Int), .int .u64 (y : Int)]).run Try.prog w = .ok (.int .u64 (z : Int)) w := by rw [run_max_int2, dmax_is x y z h]
theorem lateL_zero (l : List Ro) : lateL l 0 = [] := List.filter_eq_nil_iff.2 fun r _ => by simp
theorem OvL.short {l s : List Ro} {now n : Nat} (h : OvL (lateL l now) s) (hl : l.length ≤ n) : s.length ≤ n := by
  rw [h.perm.length_eq]
  exact Nat.le_trans (List.length_filter_le _ _) hl
set_option maxRecDepth 100000 in
set_option maxHeartbeats 16000000 in
theorem dueGrows_any {w : World} {ad : Option Addr} {n c : Nat} {dues : List Nat} (h : Us w ad c dues) (hn : n = dues.length) (a b : Nat) :
    Calls Try.prog 3 #[.slice ad n c, .int .u64 (a : Int), .int .u64 (b : Int)] w fun e w' => e = .returned (.bool true) ∧ Fr F0 w w' := by
  have HL := Lib.hid (fun W => lives18_any W)
  by_cases hb : 40 < n
  · have l1 : (40 : Int) < (n : Int) := by omega
    clear h hn
    go_enter Try.func3, Try.ntmps3
    go_wp2_with fail
    (with_reducible refine (HL.out _).mono ?_); rintro e w1 ⟨rfl, f1⟩
    have F1 := Lib.hid f1
    clear f1
    go_wp2_with fail
    (with_reducible refine (HL.out _).mono ?_); rintro e w2 ⟨rfl, f2⟩
    have F2 := Lib.hid (F1.out.trans' f2)
    clear f2
    go_wp2_with fail
    go_ret
    exact ⟨rfl, F2.out⟩
  · have l1 : ¬ (40 : Int) < (n : Int) := by omega
    have hb40 : n ≤ 40 := by omega
    obtain ⟨lo, hlo⟩ : ∃ z, min a b = z := ⟨_, rfl⟩
    obtain ⟨hi, hhi⟩ : ∃ z, max a b = z := ⟨_, rfl⟩
    have q1 := fun ts t w => run_dmin ts t a b lo hlo w
    have q2 := fun ts t w => run_dmax ts t a b hi hhi w
    have hlh : lo ≤ hi := by omega
    have HU := Lib.hid (And.intro h hn)
    have HLH := Lib.hid hlh
    clear h hn hb hlo hhi hlh
    go_enter Try.func3, Try.ntmps3
    go_wp2_with fail
    (with_reducible refine (HL.out _).mono ?_); rintro e w1 ⟨rfl, f1⟩
    have F1 := Lib.hid f1
    clear f1 HL
    go_wp2_with fail
    refine (dNew_ok 40 (by decide) w1).mono ?_; rintro e w2 ⟨p, rfl, d2, f2⟩
    have H2 := Lib.hid (And.intro (d2.mono F1.out.size) (F1.out.trans' f2))
    clear d2 f2 F1
    go_wp2_with fail
    go_loopw [31] (fun iv wr => ∃ (k : Nat) (v : Value) (R : List Ro), iv = .int .i64 (k : Int) ∧ k ≤ n ∧ R.length = k ∧ (∀ r ∈ R, r.due < 1048576) ∧ DT w.heap.size wr p 40 k v R ∧ Fr F0 w wr) (fun iv _ => n - (intOf iv).toNat)
    case atStart => exact ⟨0, _, [], rfl, Nat.zero_le _, rfl, (fun r h => by cases h), H2.out.1, H2.out.2⟩
    case round =>
      clear H2
      obtain ⟨k, v, R, rfl, hk, hR, hd, d, F⟩ := hrel
      by_cases hlt : k < n
      · have l2 : (k : Int) < (n : Int) := by omega
        obtain ⟨g, o, rfl, c1⟩ := (HU.out.1.fr F).get k (by have := HU.out.2; omega)
        obtain ⟨x, hx⟩ : ∃ x, dues.getD k 0 = x := ⟨_, rfl⟩
        rw [hx] at c1
        obtain ⟨y, hy⟩ : ∃ y, x % 1048576 = y := ⟨_, rfl⟩
        have g1 : (x : Int) % 1048576 = (y : Int) := by omega
        have hy2 : y < 1048576 := by omega
        have k1 : IntKind.i64.wrap ((k : Int) + 1) = ((k + 1 : Nat) : Int) := by rw [IntWalk.i64_in _ (by omega)]; omega
        have HA := Lib.hid (dAdd_ok d F.size (by omega) (by omega) ⟨#[120]⟩ y (by omega))
        have HI := Lib.hid (And.intro hR (And.intro hd (And.intro d (And.intro F hy2))))
        clear hR hd d F hx hy hy2
        go_wp2_with fail
        (with_reducible refine HA.out.mono ?_); rintro e w3 ⟨rfl, v3, d3, f3, -⟩
        have H3 := Lib.hid (And.intro d3 (HI.out.2.2.1.own0 (Nat.le_refl _) HI.out.2.2.2.1 f3))
        clear d3 f3 HA
        go_wp2_with fail
        go_roundw
        case rel =>
          refine ⟨k + 1, v3, _, rfl, by omega, ?_, fun r hr => ?_, H3.out⟩
          · rw [List.length_append, HI.out.1]; rfl
          · rcases List.mem_append.1 hr with h | h
            · exact HI.out.2.1 r h
            · obtain rfl := List.mem_singleton.1 h
              exact HI.out.2.2.2.2
        case measure => simp [intOf]; omega
      · obtain rfl : k = n := by omega
        have l2 : ¬ (k : Int) < (k : Int) := by omega
        have HD := Lib.hid (fun W (f : Fr F0 wr W) (now : Nat) => dOver_any (d.fr0 f) now)
        have HI := Lib.hid (And.intro hR (And.intro hd F))
        have hR2 : R.length ≤ 100000 := by omega
        clear hR hd d F hlt
        generalize wr = wq at *
        have HS := Lib.hid (fun (now : Nat) (s : List Ro) (hs : OvL (lateL R now) s) => show s.length ≤ 100000 from hs.short hR2)
        clear hR2
        go_wp2_with fail
        (with_reducible refine (HD.out _ (Fr.refl _ _) lo).mono ?_); rintro e w3 ⟨gb, v3, s1, rfl, r3, o3, h3, f3⟩
        have HO := Lib.hid (over18_any (show RowsB wq.heap.size gb v3 s1 w3 from ⟨r3, o3⟩) (HS.out _ _ h3))
        have H3 := Lib.hid (And.intro h3 f3)
        clear r3 o3 h3 f3
        go_wp2_with fail
        (with_reducible refine HO.out.mono ?_); rintro e w4 ⟨ax, nx, cx, rfl, o4, f4⟩
        have H4 := Lib.hid (And.intro o4 (H3.out.2.trans' f4))
        clear o4 f4 HO
        go_wp2_with fail
        (with_reducible refine (HD.out _ H4.out.2 hi).mono ?_); rintro e w5 ⟨gb, v5, s2, rfl, r5, o5, h5, f5⟩
        have HO := Lib.hid (over18_any (show RowsB w4.heap.size gb v5 s2 w5 from ⟨r5, o5⟩) (HS.out _ _ h5))
        have H5 := Lib.hid (And.intro h5 f5)
        clear r5 o5 h5 f5
        go_wp2_with fail
        (with_reducible refine HO.out.mono ?_); rintro e w6 ⟨ay, ny, cy, rfl, o6, f6⟩
        have H6 := Lib.hid (And.intro (H4.out.1.fr0 (H5.out.2.trans' f6)) (And.intro o6 (H4.out.2.trans' (H5.out.2.trans' f6))))
        obtain ⟨g1, g2⟩ := OvL.grows HLH.out H3.out.1 H5.out.1
        have e1 := H6.out.1.len
        have e2 := o6.len
        rw [List.length_map] at e1 e2
        have l3 : ¬ (ny : Int) < (nx : Int) := by omega
        have l4 : nx ≤ ny := by omega
        have l5 : nx ≤ cy := Nat.le_trans l4 (Sl.of_own o6.own).2.room
        have hnx : nx ≤ 100000 := by have := HS.out _ _ H3.out.1; omega
        have hq : (s1.map Ro.id) = (s2.map Ro.id).take nx := by
          conv => lhs; rw [g2]
          rw [List.map_take, e1]
        have HX := Lib.hid (same18_any (OwnN.us H6.out.1).2 ((OwnN.us H6.out.2.1).2.take nx (by rw [List.length_map]; omega)) nx nx (by rw [List.length_map]; exact e1) (by rw [List.length_take, List.length_map]; omega) true (decide_eq_true hq) hnx)
        clear o6 f6 HO g1 g2 e1 e2 hq hnx H4
        rcases OwnE.row H6.out.2.1 with ⟨hv, _⟩ | ⟨gy, c', hv, -⟩
        · cases hv
          obtain rfl : nx = 0 := by omega
          go_wp2_with fail
          (with_reducible refine HX.out.mono ?_); rintro e w7 ⟨rfl, f7⟩
          have F7 := Lib.hid (H6.out.2.2.trans' f7)
          clear f7 HX H6
          go_wp2_with fail
          refine (HD.out _ F7.out 1048576).mono ?_; rintro e w8 ⟨gb, v8, s3, rfl, r8, o8, h8, f8⟩
          have HO := Lib.hid (over18_any (show RowsB w7.heap.size gb v8 s3 w8 from ⟨r8, o8⟩) (HS.out _ _ h8))
          have e8 : s3.length = k := by rw [h8.perm.length_eq, lateL_all HI.out.2.1]; exact HI.out.1
          have F8 := Lib.hid (F7.out.trans' f8)
          clear r8 o8 h8 f8 F7
          go_wp2_with fail
          (with_reducible refine HO.out.mono ?_); rintro e w9 ⟨a9, n9, c9, rfl, o9, f9⟩
          obtain rfl : n9 = k := by have := o9.len; rw [List.length_map] at this; omega
          have F9 := Lib.hid (F8.out.trans' f9)
          replace e8 := Lib.hid e8
          clear o9 f9 F8 HO
          go_wp2_with fail
          refine (HD.out _ F9.out 0).mono ?_; rintro e w10 ⟨gb, v10, s4, rfl, r10, o10, h10, f10⟩
          have HO := Lib.hid (over18_any (show RowsB w9.heap.size gb v10 s4 w10 from ⟨r10, o10⟩) (HS.out _ _ h10))
          have e10 : s4.length = 0 := by rw [h10.perm.length_eq, lateL_zero]; rfl
          have F10 := Lib.hid (F9.out.trans' f10)
          clear r10 o10 h10 f10 F9
          go_wp2_with fail
          (with_reducible refine HO.out.mono ?_); rintro e w11 ⟨a11, n11, c11, rfl, o11, f11⟩
          obtain rfl : n11 = 0 := by have := o11.len; rw [List.length_map] at this; omega
          have F11 := Lib.hid (HI.out.2.2.trans' (F10.out.trans' f11))
          clear o11 f11 F10 HO e10
          go_wp2_with fail
          go_ret
          exact ⟨rfl, F11.out⟩
        · simp only [Value.slice.injEq] at hv
          obtain ⟨hv, -⟩ := hv
          subst hv
          go_wp2_with fail
          (with_reducible refine HX.out.mono ?_); rintro e w7 ⟨rfl, f7⟩
          have F7 := Lib.hid (H6.out.2.2.trans' f7)
          clear f7 HX H6
          go_wp2_with fail
          refine (HD.out _ F7.out 1048576).mono ?_; rintro e w8 ⟨gb, v8, s3, rfl, r8, o8, h8, f8⟩
          have HO := Lib.hid (over18_any (show RowsB w7.heap.size gb v8 s3 w8 from ⟨r8, o8⟩) (HS.out _ _ h8))
          have e8 : s3.length = k := by rw [h8.perm.length_eq, lateL_all HI.out.2.1]; exact HI.out.1
          have F8 := Lib.hid (F7.out.trans' f8)
          clear r8 o8 h8 f8 F7
          go_wp2_with fail
          (with_reducible refine HO.out.mono ?_); rintro e w9 ⟨a9, n9, c9, rfl, o9, f9⟩
          obtain rfl : n9 = k := by have := o9.len; rw [List.length_map] at this; omega
          have F9 := Lib.hid (F8.out.trans' f9)
          replace e8 := Lib.hid e8
          clear o9 f9 F8 HO
          go_wp2_with fail
          refine (HD.out _ F9.out 0).mono ?_; rintro e w10 ⟨gb, v10, s4, rfl, r10, o10, h10, f10⟩
          have HO := Lib.hid (over18_any (show RowsB w9.heap.size gb v10 s4 w10 from ⟨r10, o10⟩) (HS.out _ _ h10))
          have e10 : s4.length = 0 := by rw [h10.perm.length_eq, lateL_zero]; rfl
          have F10 := Lib.hid (F9.out.trans' f10)
          clear r10 o10 h10 f10 F9
          go_wp2_with fail
          (with_reducible refine HO.out.mono ?_); rintro e w11 ⟨a11, n11, c11, rfl, o11, f11⟩
          obtain rfl : n11 = 0 := by have := o11.len; rw [List.length_map] at this; omega
          have F11 := Lib.hid (HI.out.2.2.trans' (F10.out.trans' f11))
          clear o11 f11 F10 HO e10
          go_wp2_with fail
          go_ret
          exact ⟨rfl, F11.out⟩
end Go.Proofs.Ytkekdbnmeobgiaa

/- Layer 18's law DuePlays: what is to be done; the table beside the law's own list; the search for a number. -/
namespace Go.Proofs.Ytkekdbnmeobgiaa
set_option maxRecDepth 100000
set_option linter.unusedVariables false
set_option linter.unusedSimpArgs false
open Go.RowKit

theorem Try.szAct18 : (Try.prog.info? 40).map (·.size) = some 4 := by kernel_rfl
@[go_sem ↓ high] theorem load_act18 (p : Value) : Instr.loadAt 40 p = loadRowAt 40 p := rfl
@[go_sem ↓ high] theorem store_act18 (p v : Value) : Instr.storeAt 40 p v = storeRowAt 40 p v := rfl
@[go_sem] theorem run_load_act18 (w : World) (g : Nat) : (loadRowAt 40 (.pointer (some ⟨g, 0, none⟩))).run Try.prog w = rowOut Try.prog 40 (.pointer (some ⟨g, 0, none⟩)) w 4 w.heap[g]? :=
  run_loadRowAt w _ g 4 _ Try.underlying40 rfl Try.szAct18
@[go_sem] theorem run_store_act18 (w : World) (g : Nat) (cells : Array Value) : (storeRowAt 40 (.pointer (some ⟨g, 0, none⟩)) (.agg cells)).run Try.prog w = rowIn Try.prog 40 (.pointer (some ⟨g, 0, none⟩)) cells g w 4 w.heap[g]? :=
  run_storeRowAt w _ g 4 cells Try.szAct18
/-- What is to be done, in memory. -/
structure Acts18 (w : World) (a : Option Addr) (n : Nat) : Prop where
  at_ : ∀ k, k < n → ∃ b off kd id at_ x, a = some ⟨b, off, none⟩ ∧ ∀ W, Fr F0 w W → (loadRowAt 40 (.pointer (some ⟨b, off + k * 4, none⟩))).run Try.prog W = .ok (.agg #[.int .i64 kd, .int .u64 (id : Nat), .int .u64 (at_ : Nat), .string x]) W
theorem rowOne_A (a : Int) (b c : Int) (x : ByteArray) : rowOne #[.int .i64 a, .int .u64 b, .int .u64 c, .string x] := by
  unfold rowOne
  rw [Array.all_eq_true_iff_forall_mem]
  intro v hv
  simp only [List.mem_toArray, List.mem_cons, List.not_mem_nil, or_false] at hv
  rcases hv with rfl | rfl | rfl | rfl <;> rfl
/-- An act in its box. -/
def ActB (g : Nat) (kd : Int) (id at_ : Nat) (x : ByteArray) (w : World) : Prop := w.heap[g]? = some (.cells #[.int .i64 kd, .int .u64 (id : Int), .int .u64 (at_ : Int), .string x] 40 (0, 0))

/-- One thing more. -/
theorem OwnT.app1 {B : Nat} {w : World} {v : Value} {l : List Ro} (h : OwnT B w v l) (r : Ro) (hB : B ≤ w.heap.size) (hl : l.length ≤ 10000) (ty : TypeId) :
    ∃ a' n' c' w', (appTh ty #[v, .slice (some ⟨w.heap.size, 0, none⟩) 1 1]).run Try.prog (w.alloc (.cells #[.int .u64 (r.id : Int), .int .u64 (r.due : Int), .string r.x] 42)) = .ok (.slice a' n' c') w' ∧ OwnT B w' (.slice a' n' c') (l ++ [r]) ∧ Fr (fun k => v.ownBlock = some k) w w' := by
  have f1 : Fr F0 w (w.alloc (.cells (encR r).toArray 42)) := (Fr.refl F0 w).alloc _
  obtain ⟨a', n', c', w', hr, ho, hf⟩ := OwnT.apps (m := [r]) (h.fr0 f1) (some ⟨w.heap.size, 0, none⟩) 1 1 rfl (by rw [show [r].flatMap encR = encR r by simp]; exact sl_at (size := 3) (xs := encR r) rfl (heap_alloc_new w (.cells (encR r).toArray 42))) (Nat.le_trans hB f1.size) (by omega) ty
  exact ⟨a', n', c', w', hr, ho, (f1.of0).trans' hf⟩

/-- The table and the law's own list have the same things. -/
structure PSt (B : Nat) (w : World) (p most last : Nat) (v vm : Value) (L : List Ro) : Prop where
  tab : DT B w p most last v L
  lst : OwnT B w vm L
section
variable {B : Nat} {w w' : World} {p most last : Nat} {v vm : Value} {L : List Ro}
theorem PSt.fr0 (h : PSt B w p most last v vm L) (f : Fr F0 w w') : PSt B w' p most last v vm L := ⟨h.tab.fr0 f, h.lst.fr0 f⟩
/-- The list's block is none of the table's. -/
theorem PSt.off (h : PSt B w p most last v vm L) : ∀ k, vm.ownBlock = some k → ¬ (k = p ∨ v.ownBlock = some k) := fun k hk e => by
  obtain ⟨cur, hc⟩ := h.lst.kind hk
  rcases e with rfl | e
  · rw [h.tab.at_] at hc
    simp only [Option.some.injEq, Obj.cells.injEq] at hc
    exact absurd hc.2.1 (by decide)
  · exact h.tab.own.other hc (by decide) e
theorem PSt.off2 (h : PSt B w p most last v vm L) : vm.ownBlock ≠ some p ∧ ∀ k, v.ownBlock = some k → ¬ vm.ownBlock = some k := ⟨fun e => h.off p e (.inl rfl), fun k hk e => h.off k e (.inr hk)⟩
theorem frB_tab (h : PSt B w p most last v vm L) (f : Fr (fun k => k = p ∨ v.ownBlock = some k) w w') : Fr (fun k => B ≤ k) w w' := f.mono fun k _ e => by
  rcases e with rfl | e
  · exact h.tab.base
  · exact h.tab.own.blk k e
theorem frB_lst (h : PSt B w p most last v vm L) (f : Fr (fun k => vm.ownBlock = some k) w w') : Fr (fun k => B ≤ k) w w' := f.mono fun k _ e => h.lst.blk k e
end
/-- Among the first k: where the number is, if it is there. -/
def Fnd (l : List Ro) (id k : Nat) : Option Nat → Prop
  | none => ∀ t, t < k → ∀ r, l[t]? = some r → r.id ≠ id
  | some j => j < k ∧ ∃ r, AtR l id j r

set_option maxRecDepth 100000 in
set_option maxHeartbeats 16000000 in
theorem dp2 {s0 s1 s2 s3 s4 s5 s6 s7 s8 s9 s12 s13 s14 s15 s16 s17 s18 s19 s20 s21 s22 s23 s24 s25 s26 s27 s28 s29 s30 s31 s32 s33 s34 s35 s36 s37 s38 s39 s40 s41 s42 s43 s44 s45 s46 s47 s48 s49 s50 s51 s52 s53 s57 s58 s59 s60 s61 s62 s63 s64 s65 s66 s67 s68 s69 s70 s71 s72 s73 s74 s75 s76 s77 s78 s79 s80 s81 s82 s83 s84 s85 s86 s87 s88 s89 s90 s91 s92 s93 s94 s95 s96 s97 s98 s99 s100 s101 s102 s103 s104 s105 s106 s107 s108 s109 s110 s111 s112 s113 s114 s115 s116 s117 s118 s119 s120 s121 s122 s123 s124 s125 s126 s127 s128 s129 s130 s131 s132 s133 s134 s135 s136 s137 s138 s139 s140 s141 s142 s143 s144 s145 s146 s147 s148 s149 s150 s151 s152 s153 s154 s155 s156 s157 s158 s159 s160 s161 s162 s163 s164 s165 s166 s167 s168 s169 s170 s171 s172 s173 s174 s175 s176 s177 s178 s179 s180 s181 s182 s183 s184 s185 s186 s187 s188 s189 s190 s191 s192 s193 s194 s195 s196 s197 s198 s199 s200 s201 s202 s203 s204 s205 s206 s207 s208 s209 s210 s211 s212 s213 s214 s215 s216 s217 s218 s219 s220 s221 s222 s223 s224 s225 s226 s227 s228 s229 s230 s231 s232 s233 s234 s235 s236 s237 s238 s239 s240 : Value} {K : Act → World → Prop} {Q : Exit → Act → World → Prop} (B g10 n c id at_ : Nat) (kd : Int) (x : ByteArray) (a : Option Addr) (L : List Ro) (w : World) (r10 : w.heap[g10]? = some (.cells #[.int .i64 kd, .int .u64 (id : Int), .int .u64 (at_ : Int), .string x] 40 (0, 0))) (h : OwnT B w (.slice a n c) L) (hl : n ≤ 10000) (ha : L.Pairwise fun a b => a.id < b.id)
    (hK : RowKit.Hid (∀ {u11 u12 u13 u56 u57 u58 u59 u60 u61 u62 u63 u64 u65 u66 u67 : Value} {w' : World}, ((∃ b, u11 = .int .i64 (bz b) ∧ Fnd L id L.length b) ∧ Fr F0 w w') → K ⟨#[s0, s1, s2, s3, s4, s5, s6, s7, s8, s9, .pointer (some ⟨g10, 0, none⟩), u11, u12, u13, s14, s15, s16, s17, s18, s19, s20, s21, s22, s23, s24, s25, s26, s27, s28, s29, s30, s31, s32, s33, s34, s35, s36, s37, s38, s39, s40, s41, s42, s43, s44, s45, s46, s47, s48, s49, s50, s51, s52, s53, .slice a n c, .int .i64 (n : Int), u56, u57, u58, u59, u60, u61, u62, u63, u64, u65, u66, u67, s68, s69, s70, s71, s72, s73, s74, s75, s76, s77, s78, s79, s80, s81, s82, s83, s84, s85, s86, s87, s88, s89, s90, s91, s92, s93, s94, s95, s96, s97, s98, s99, s100, s101, s102, s103, s104, s105, s106, s107, s108, s109, s110, s111, s112, s113, s114, s115, s116, s117, s118, s119, s120, s121, s122, s123, s124, s125, s126, s127, s128, s129, s130, s131, s132, s133, s134, s135, s136, s137, s138, s139, s140, s141, s142, s143, s144, s145, s146, s147, s148, s149, s150, s151, s152, s153, s154, s155, s156, s157, s158, s159, s160, s161, s162, s163, s164, s165, s166, s167, s168, s169, s170, s171, s172, s173, s174, s175, s176, s177, s178, s179, s180, s181, s182, s183, s184, s185, s186, s187, s188, s189, s190, s191, s192, s193, s194, s195, s196, s197, s198, s199, s200, s201, s202, s203, s204, s205, s206, s207, s208, s209, s210, s211, s212, s213, s214, s215, s216, s217, s218, s219, s220, s221, s222, s223, s224, s225, s226, s227, s228, s229, s230, s231, s232, s233, s234, s235, s236, s237, s238, s239, s240], []⟩ w')) :
    Code.wp Try.prog ((((Try.f4.body.bind (findBlock 2)).getD .skip))) (Exit.then K Q) ⟨#[s0, s1, s2, s3, s4, s5, s6, s7, s8, s9, .pointer (some ⟨g10, 0, none⟩), .int .i64 (-1), s12, s13, s14, s15, s16, s17, s18, s19, s20, s21, s22, s23, s24, s25, s26, s27, s28, s29, s30, s31, s32, s33, s34, s35, s36, s37, s38, s39, s40, s41, s42, s43, s44, s45, s46, s47, s48, s49, s50, s51, s52, s53, .slice a n c, .int .i64 (n : Int), .int .i64 0, s57, s58, s59, s60, s61, s62, s63, s64, s65, s66, s67, s68, s69, s70, s71, s72, s73, s74, s75, s76, s77, s78, s79, s80, s81, s82, s83, s84, s85, s86, s87, s88, s89, s90, s91, s92, s93, s94, s95, s96, s97, s98, s99, s100, s101, s102, s103, s104, s105, s106, s107, s108, s109, s110, s111, s112, s113, s114, s115, s116, s117, s118, s119, s120, s121, s122, s123, s124, s125, s126, s127, s128, s129, s130, s131, s132, s133, s134, s135, s136, s137, s138, s139, s140, s141, s142, s143, s144, s145, s146, s147, s148, s149, s150, s151, s152, s153, s154, s155, s156, s157, s158, s159, s160, s161, s162, s163, s164, s165, s166, s167, s168, s169, s170, s171, s172, s173, s174, s175, s176, s177, s178, s179, s180, s181, s182, s183, s184, s185, s186, s187, s188, s189, s190, s191, s192, s193, s194, s195, s196, s197, s198, s199, s200, s201, s202, s203, s204, s205, s206, s207, s208, s209, s210, s211, s212, s213, s214, s215, s216, s217, s218, s219, s220, s221, s222, s223, s224, s225, s226, s227, s228, s229, s230, s231, s232, s233, s234, s235, s236, s237, s238, s239, s240], []⟩ w := by
  conv => arg 2; whnf
  have hn := h.len
  have HO := Lib.hid (And.intro h ha)
  replace hn := Lib.hid hn
  clear h ha
  go_wp2_with fail
  go_loopw [11, 56] (fun y iv wr => ∃ (k : Nat) (b : Option Nat), y = .int .i64 (bz b) ∧ iv = .int .i64 (k : Int) ∧ k ≤ n ∧ Fnd L id k b ∧ wr.heap[g10]? = some (.cells #[.int .i64 kd, .int .u64 (id : Int), .int .u64 (at_ : Int), .string x] 40 (0, 0)) ∧ Fr F0 w wr) (fun _ iv _ => n - (intOf iv).toNat)
  case atStart => exact ⟨0, none, rfl, rfl, Nat.zero_le _, fun t h => absurd h (Nat.not_lt_zero t), r10, Fr.refl _ _⟩
  case round =>
    clear r10
    obtain ⟨k, b, rfl, rfl, hk, hb, r10, f⟩ := hrel
    have HB := Lib.hid (And.intro hb f)
    clear hb f
    by_cases hlt : k < n
    · have l1 : (k : Int) < (n : Int) := by omega
      obtain ⟨g, rfl⟩ := OwnE.place1 HO.out.1 hlt
      have hr := List.getElem?_eq_getElem (show k < L.length by have := hn.out; omega)
      have hld := OwnT.load (HO.out.1.fr0 HB.out.2) k _ hr
      obtain ⟨r, hre⟩ : ∃ r, L[k]'(by have := hn.out; omega) = r := ⟨_, rfl⟩
      rw [hre] at hr hld
      have HR := Lib.hid hr
      have k1 : IntKind.i64.wrap ((k : Int) + 1) = ((k + 1 : Nat) : Int) := by rw [IntWalk.i64_in _ (by omega)]; omega
      obtain ⟨ri, rd, rx⟩ := r
      have oS := rowOne_R (ri : Int) (rd : Int) rx
      clear hr hre
      go_upto_region 15 with fail
      refine wp_put fun W3 N => ?_
      have r13 := N.new
      replace r10 := N.old r10
      have F3 := Lib.hid (HB.out.2.trans' N.fr)
      clear N hld
      obtain ⟨g13, hg⟩ : ∃ g, wr.heap.size = g := ⟨_, rfl⟩
      rw [hg] at r13 ⊢
      clear hg
      by_cases he : ri = id
      · subst he
        go_wp2_with fail
        go_roundw
        case rel => exact ⟨k + 1, some k, rfl, rfl, by omega, ⟨by omega, _, HR.out, rfl⟩, r10, F3.out⟩
        case measure => simp [intOf]; omega
      · have n1 : ((ri : Int) == (id : Int)) = false := beq_eq_false_iff_ne.2 (by omega)
        have n2 : (ri == id) = false := beq_eq_false_iff_ne.2 he
        have HE := Lib.hid he
        go_wp2_with fail
        go_roundw
        case rel =>
          refine ⟨k + 1, b, rfl, rfl, by omega, ?_, r10, F3.out⟩
          have hf := HB.out.1
          cases b with
          | none =>
            intro t ht s hs
            by_cases e : t = k
            · subst e
              have := HR.out
              rw [hs] at this
              cases this
              exact HE.out
            · exact hf t (by omega) s hs
          | some j => exact ⟨by have := hf.1; omega, hf.2⟩
        case measure => simp [intOf]; omega
    · obtain rfl : k = n := by omega
      have l1 : ¬ (k : Int) < (k : Int) := by omega
      have hf : Fnd L id L.length b := by rw [← hn.out]; exact HB.out.1
      go_wp2_with fail
      exact hK.out ⟨⟨b, rfl, hf⟩, HB.out.2⟩
end Go.Proofs.Ytkekdbnmeobgiaa
