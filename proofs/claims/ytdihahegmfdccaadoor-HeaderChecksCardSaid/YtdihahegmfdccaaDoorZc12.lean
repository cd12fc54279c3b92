import Derived.Test.YtdihahegmfdccaaDoorZc7
import Derived.Test.YtdihahegmfdccaaDoorZc8
import Derived.Test.YtdihahegmfdccaaDoorZc10
import Derived.Test.YtdihahegmfdccaaDoorZc11
import Derived.Deep.MidRow
import Derived.Test.YtdihahegmfdccaaDoorZc6
/- Layer 7 (header): a header's cells and its bytes. -/
namespace Go.Proofs.YtdihahegmfdccaaDoor
set_option linter.unusedVariables false
set_option linter.unusedSimpArgs false
open Go.RowKit

/-- A header. -/
structure Hd where
  ver : Nat
  ahead : List UInt8
  root : List UInt8
  time : Nat
  bits : Nat
  nonce : Nat
deriving DecidableEq

structure Hd.Ok (h : Hd) : Prop where
  ver : h.ver < 4294967296
  ahead : h.ahead.length = 32
  root : h.root.length = 32
  time : h.time < 4294967296
  bits : h.bits < 4294967296
  nonce : h.nonce < 4294967296

/-- Its cells. -/
def Hd.cells (h : Hd) : Array Value := (Value.int .u32 (h.ver : Int) :: (h.ahead.map B8 ++ (h.root.map B8 ++ [Value.int .u32 (h.time : Int), .int .u32 (h.bits : Int), .int .u32 (h.nonce : Int)]))).toArray

/-- Its bytes. -/
def Hd.bytes (h : Hd) : List UInt8 := le 4 h.ver ++ (h.ahead ++ (h.root ++ (le 4 h.time ++ (le 4 h.bits ++ le 4 h.nonce))))

theorem Hd.cells_size {h : Hd} (o : h.Ok) : h.cells.size = 68 := by simp [Hd.cells, o.ahead, o.root]
theorem Hd.bytes_length {h : Hd} (o : h.Ok) : h.bytes.length = 80 := by simp [Hd.bytes, o.ahead, o.root, le_length]

theorem Hd.cell0 {h : Hd} (o : h.Ok) : h.cells[0]? = some (.int .u32 (h.ver : Int)) := by simp [Hd.cells]
theorem Hd.cell65 {h : Hd} (o : h.Ok) : h.cells[65]? = some (.int .u32 (h.time : Int)) := by simp [Hd.cells, List.getElem?_append, o.ahead, o.root]
theorem Hd.cell66 {h : Hd} (o : h.Ok) : h.cells[66]? = some (.int .u32 (h.bits : Int)) := by simp [Hd.cells, List.getElem?_append, o.ahead, o.root]
theorem Hd.cell67 {h : Hd} (o : h.Ok) : h.cells[67]? = some (.int .u32 (h.nonce : Int)) := by simp [Hd.cells, List.getElem?_append, o.ahead, o.root]
theorem Hd.range1 {h : Hd} (o : h.Ok) : (h.cells.extract 1 33).toList = h.ahead.map B8 := by
  simp [Hd.cells, o.ahead, List.take_append, List.drop_append]
theorem Hd.range33 {h : Hd} (o : h.Ok) : (h.cells.extract 33 65).toList = h.root.map B8 := by
  simp [Hd.cells, o.ahead, o.root, List.take_append, List.drop_append]
end Go.Proofs.YtdihahegmfdccaaDoor

/- Arguments that are headers, opened. -/
namespace Go.Proofs.YtdihahegmfdccaaDoor
set_option linter.unusedVariables false
set_option linter.unusedSimpArgs false
open Go.RowKit Go.ChangeShapes Go.WideShapes

theorem bytes_of7 (cs : List Value) (n : Nat) (hl : cs.length = n) (h : ∀ i, i < n → ∃ z : Int, (cs.drop i).take 1 = [.int .u8 z] ∧ (Lit.int .u8 z).wf = true) : ∃ l : List UInt8, l.length = n ∧ cs = l.map B8 := by
  induction n generalizing cs with
  | zero => exact ⟨[], rfl, List.eq_nil_of_length_eq_zero hl⟩
  | succ n ih =>
    match cs, hl with
    | c :: cs, hl =>
      obtain ⟨z, e, wf⟩ := h 0 (by omega)
      obtain ⟨l, h1, h2⟩ := ih cs (by simpa using hl) (fun i hi => by simpa using h (i + 1) (by omega))
      simp at e
      have hb : 0 ≤ z ∧ z ≤ 255 := bounds_u8 wf
      refine ⟨UInt8.ofNat z.toNat :: l, by simp [h1], ?_⟩
      rw [List.map_cons, ← h2, e]
      congr 1
      simp only [B8, UInt8.toNat_ofNat']
      congr 1
      omega

section
variable {H : Type} {enc : TypeId × Value → H} {W : World} {base : Nat} {sp : Nat → Bool} {held : Bool}

theorem cells_hash {fuel : Nat} {cs : List Value} {y : DataW H × List MemPlace} (hf : DataW.trod enc Tryd.prog W base sp held fuel 24 cs = some y) (hl : cs.length = 32) : ∃ l : List UInt8, l.length = 32 ∧ cs = l.map B8 := by
  obtain ⟨xs, m, rfl, hx, hlen, hn, hel⟩ := DataW.trod_array Tryd.underlying24 hf
  have c1 : Tryd.prog.cellsOf 5 = 1 := by kernel_rfl
  refine bytes_of7 cs 32 hl (fun i hi => ?_)
  have h := hel i hi
  rw [c1, Nat.mul_one] at h
  rw [List.getElem?_eq_getElem (show i < xs.length by omega)] at h
  obtain ⟨z, e, _, wf⟩ := DataW.trod_int Tryd.underlying5 h
  exact ⟨z, e, wf⟩
theorem cells_u32 {fuel : Nat} {cs : List Value} {y : DataW H × List MemPlace} (hf : DataW.trod enc Tryd.prog W base sp held fuel 22 cs = some y) : ∃ x : Nat, x < 4294967296 ∧ cs = [.int .u32 (x : Int)] := by
  obtain ⟨z, e, _, wf⟩ := DataW.trod_int Tryd.underlying22 hf
  have hb := bounds_u32 wf
  obtain ⟨x, rfl⟩ := Int.eq_ofNat_of_zero_le hb.1
  exact ⟨x, by omega, e⟩
theorem split68 (cs : List Value) (h : cs.length = 68) : cs = (cs.drop 0).take 1 ++ ((cs.drop 1).take 32 ++ ((cs.drop 33).take 32 ++ ((cs.drop 65).take 1 ++ ((cs.drop 66).take 1 ++ (cs.drop 67).take 1)))) := by
  have e : ∀ (a b : Nat) (l : List Value), (l.drop a).take b ++ l.drop (a + b) = l.drop a := fun a b l => by
    rw [← List.drop_drop, List.take_append_drop]
  have e67 : (cs.drop 67).take 1 = cs.drop 67 := List.take_of_length_le (by simp; omega)
  rw [e67, e 66 1 cs, e 65 1 cs, e 33 32 cs, e 1 32 cs, e 0 1 cs]
  rfl

set_option maxRecDepth 100000 in
theorem open_header {r : Reach} {b0 : Nat} {v : Value} {d : DataW H} {ps : List MemPlace} (hd : DataW.Trod enc Tryd.prog W base sp held 26 v d ps) (hv : Value.okWide Tryd.prog W r b0 26 v) :
    ∃ h : Hd, h.Ok ∧ v = .agg h.cells := by
  simp only [Value.okWide, Tryd.underlying26] at hv
  obtain ⟨cs, rfl, hs, _⟩ := hv
  obtain ⟨fuel, hf⟩ := hd
  obtain ⟨xs, n, _, _, hl, hlen, hc⟩ := DataW.trod_struct Tryd.underlying26 hf
  have h68 : Tryd.prog.cellsOf 26 = 68 := by kernel_rfl
  have h32 : Tryd.prog.cellsOf 24 = 32 := by kernel_rfl
  have h1 : Tryd.prog.cellsOf 22 = 1 := by kernel_rfl
  match xs, hlen with
  | [y0, y1, y2, y3, y4, y5], _ =>
    have k0 : DataW.trod enc Tryd.prog W base sp held n 22 ((cs.toList.drop 0).take (Tryd.prog.cellsOf 22)) = some y0 := hc 0 _ rfl
    have k1 : DataW.trod enc Tryd.prog W base sp held n 24 ((cs.toList.drop 1).take (Tryd.prog.cellsOf 24)) = some y1 := hc 1 _ rfl
    have k2 : DataW.trod enc Tryd.prog W base sp held n 24 ((cs.toList.drop 33).take (Tryd.prog.cellsOf 24)) = some y2 := hc 2 _ rfl
    have k3 : DataW.trod enc Tryd.prog W base sp held n 22 ((cs.toList.drop 65).take (Tryd.prog.cellsOf 22)) = some y3 := hc 3 _ rfl
    have k4 : DataW.trod enc Tryd.prog W base sp held n 22 ((cs.toList.drop 66).take (Tryd.prog.cellsOf 22)) = some y4 := hc 4 _ rfl
    have k5 : DataW.trod enc Tryd.prog W base sp held n 22 ((cs.toList.drop 67).take (Tryd.prog.cellsOf 22)) = some y5 := hc 5 _ rfl
    rw [h1] at k0 k3 k4 k5
    rw [h32] at k1 k2
    have hl' : cs.toList.length = 68 := by rw [← h68, ← hl]; rfl
    obtain ⟨x0, b0, e0⟩ := cells_u32 k0
    obtain ⟨l1, b1, e1⟩ := cells_hash k1 (by simp; simp at hl'; omega)
    obtain ⟨l2, b2, e2⟩ := cells_hash k2 (by simp; simp at hl'; omega)
    obtain ⟨x3, b3, e3⟩ := cells_u32 k3
    obtain ⟨x4, b4, e4⟩ := cells_u32 k4
    obtain ⟨x5, b5, e5⟩ := cells_u32 k5
    refine ⟨⟨x0, l1, l2, x3, x4, x5⟩, ⟨b0, b1, b2, b3, b4, b5⟩, ?_⟩
    have := split68 cs.toList hl'
    rw [e0, e1, e2, e3, e4, e5] at this
    congr 1
    apply Array.toList_inj.1
    rw [this]
    simp [Hd.cells]
end
end Go.Proofs.YtdihahegmfdccaaDoor
