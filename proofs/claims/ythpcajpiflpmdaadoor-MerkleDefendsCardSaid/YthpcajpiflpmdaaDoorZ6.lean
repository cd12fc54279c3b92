import Derived.Test.YthpcajpiflpmdaaDoorZ1
/- Pieces of slices: s[:n], s[n:], s[m:n].  -/
namespace Go.Proofs.YthpcajpiflpmdaaDoor
set_option linter.unusedVariables false
set_option linter.unusedSimpArgs false
open Go.RowKit

/-- The address of what is left of a slice behind its first l elements. -/
def cutA (a : Option Addr) (cap l s : Nat) : Option Addr := if cap = l then a else a.map (·.add (l * s))

@[go_sem high] theorem run_slice_from_g {P : Program} (w : World) (t : TypeId) (ht : P.underlying t = some (.slice (P.elem t))) (a : Option Addr) (len cap : Nat) (kl : IntKind) (l : Int) (h0 : 0 ≤ l) (h1 : l ≤ len) :
    (Instr.slice t (.slice a len cap) (some (.int kl l)) none none).run P w = ((sizeOf (P.elem t)).run P w).andThen fun s w => .ok (.slice (cutA a cap l.toNat s) (len - l.toNat) (cap - l.toNat)) w := by
  rw [run_slice_l w t a len cap ht kl l h0 h1]
  rfl

@[go_sem high] theorem run_slice_to_g {P : Program} (w : World) (t : TypeId) (ht : P.underlying t = some (.slice (P.elem t))) (a : Option Addr) (len cap : Nat) (kh : IntKind) (h : Int) (h0 : 0 ≤ h) (h2 : h ≤ cap) :
    (Instr.slice t (.slice a len cap) none (some (.int kh h)) none).run P w = ((sizeOf (P.elem t)).run P w).andThen fun _ w => .ok (.slice a h.toNat cap) w := by
  rw [run_slice_h w t a len cap ht kh h h0 h2]
  congr 1
  funext s w
  simp only [sliced, Nat.zero_mul, Nat.sub_zero]
  congr 2
  split
  · rfl
  · cases a <;> simp [Addr.add]

@[go_sem high] theorem run_slice_fromto_g {P : Program} (w : World) (t : TypeId) (ht : P.underlying t = some (.slice (P.elem t))) (a : Option Addr) (len cap : Nat) (kl kh : IntKind) (l h : Int) (h0 : 0 ≤ l) (h1 : l ≤ h) (h2 : h ≤ cap) :
    (Instr.slice t (.slice a len cap) (some (.int kl l)) (some (.int kh h)) none).run P w = ((sizeOf (P.elem t)).run P w).andThen fun s w => .ok (.slice (cutA a cap l.toNat s) (h.toNat - l.toNat) (cap - l.toNat)) w := by
  rw [run_slice_lh w t a len cap ht kl kh l h h0 h1 h2]
  rfl

theorem Bs.take {w : World} {a : Option Addr} {c : Nat} {bs : List UInt8} (h : Bs w a c bs) (n : Nat) : Bs w a c (bs.take n) := by
  refine ⟨by simp, by have := h.room; simp; omega, h.most, h.nil, fun j u hj => ?_⟩
  rw [List.map_take, List.getElem?_take] at hj
  split at hj
  · exact h.cell j u hj
  · cases hj

theorem Bs.drop {w : World} {a : Option Addr} {c : Nat} {bs : List UInt8} (h : Bs w a c bs) (n : Nat) (_hn : n ≤ bs.length) : Bs w (cutA a c n 1) (c - n) (bs.drop n) := by
  have hr := h.room
  have hm := h.most
  refine ⟨by simp, by simp; omega, by omega, fun e => ?_, fun j u hj => ?_⟩
  · have : a = none := by
      unfold cutA at e
      split at e
      · exact e
      · simpa using e
    have := h.nil this
    omega
  · rw [List.map_drop, List.getElem?_drop] at hj
    obtain ⟨b, off, rfl, hc⟩ := h.cell (n + j) u hj
    have hlt : n + j < bs.length := by
      have := (List.getElem?_eq_some_iff.1 hj).1
      simpa using this
    refine ⟨b, off + n, ?_, by rw [Nat.add_assoc]; exact hc⟩
    unfold cutA
    rw [if_neg (by omega)]
    simp [Addr.add_lit]

theorem cutA_blk (a : Option Addr) (c l s : Nat) : ablk (cutA a c l s) = ablk a := by
  unfold cutA
  split
  · rfl
  · cases a with
    | none => rfl
    | some a => simp [ablk, Addr.add]; split <;> rfl

end Go.Proofs.YthpcajpiflpmdaaDoor
