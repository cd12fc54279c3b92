/- Texts read as hashes, as Lean says it; the document's answer 02: Parse. -/
import Derived.Test.YtkppakhjfagdnaaDoorHex
import Derived.Laws.ResultCell
namespace Go.Proofs.YtkppakhjfagdnaaDoor
set_option linter.unusedVariables false
set_option linter.unusedSimpArgs false
open Go.RowKit

attribute [local go_sem] strOf_size

/-- What a sign of hexadecimal stands for. -/
def hexv (c : UInt8) : Option UInt8 :=
  if 48 ≤ c.toNat ∧ c.toNat ≤ 57 then some (UInt8.ofNat (c.toNat - 48)) else if 97 ≤ c.toNat ∧ c.toNat ≤ 102 then some (UInt8.ofNat (c.toNat - 87)) else none

/-- The hash that the first signs give. -/
def parseN (s : List UInt8) : Nat → Option (List UInt8)
  | 0 => some (List.replicate 32 0)
  | i + 1 => match parseN s i, hexv (s.getD i 0) with
    | some h, some d => some (h.set (31 - i / 2) (UInt8.ofNat ((h.getD (31 - i / 2) 0).toNat * 16 + d.toNat)))
    | _, _ => none

/-- The hash of a text. -/
def parseL (s : List UInt8) : Option (List UInt8) := if s.length = 64 then parseN s 64 else none

theorem parseN_length (s : List UInt8) : ∀ i h, parseN s i = some h → h.length = 32
  | 0, h, e => by simp only [parseN, Option.some.injEq] at e; subst e; simp
  | i + 1, h, e => by
    rw [parseN] at e
    cases hp : parseN s i with
    | none => rw [hp] at e; cases e
    | some g =>
      rw [hp] at e
      cases hd : hexv (s.getD i 0) with
      | none => rw [hd] at e; cases e
      | some d =>
        rw [hd] at e
        simp only [Option.some.injEq] at e
        subst e
        simpa using parseN_length s i g hp

theorem parseN_none (s : List UInt8) (i : Nat) (h : parseN s i = none) : ∀ u, parseN s (i + u) = none
  | 0 => h
  | u + 1 => by rw [← Nat.add_assoc, parseN, parseN_none s i h u]

theorem results_cell_row_tmp {P : Program} {fn : Func} {p u : Tmp} {ty : TypeId} (h : fn.results = #[.cell p ty, .tmp u]) (tmps : Array Value) (w : World) (g : Nat) (t : TypeId) (cs : Array Value) (fr : Nat × Nat) (d : TypeDesc)
    (hp : tmps.getD p undef = .pointer (some ⟨g, 0, none⟩)) (hg : w.heap[g]? = some (.cells cs t fr))
    (hu : P.underlying ty = some d) (hd : (match d with | .struct _ | .array _ _ => true | _ => false) = true) (hi : (P.info? ty).map (·.size) = some cs.size) :
    (results fn tmps).run P w = .ok (.tuple #[.agg cs, tmps.getD u undef]) w := by
  rw [results_cell_tmp h, hp]
  simp [asAddr, run_loadVar_row w g t ty cs fr d hg hu hd hi]
end Go.Proofs.YtkppakhjfagdnaaDoor
