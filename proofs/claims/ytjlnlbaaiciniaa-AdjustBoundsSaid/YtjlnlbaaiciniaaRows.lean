/-
  No cell of these rows narrows 'for every input' (looked for: loops, veiled, ifaces, maps, wideKeys, modest, calm, conditions, laid).
  DERIVED. THE GIVEN ROWS OF THIS SEAT. 3 by the template 'for every input the law returns true; each argument reads behind the call as it read before'; 0 by the template 'total and deterministic' (their statements: YtjlnlbaaiciniaaTotals.lean).
  GIVEN WITH THE SEED: the statements are not yours to turn. If you find one false, say at which input.
  Laid BY PROGRAM, IN A SANDBOX (cutbox-rows.mjs): the forced cells as the released guide's own fill.sh prints them over the translation 334859788719439d… (all of the seat's roots in one cut). By AI agents, Wed Nov 11 2026. No macro, syntax, notation, axiom, sorry.
-/
import Derived.Test.YtjlnlbaaiciniaaChecked
import GoSem.Claim
import GoSem.ClaimJoined
import GoSem.ClaimMapViews
import Derived.JoinedTies
import Derived.KernelRfl
namespace Go.Proofs.Ytjlnlbaaiciniaa
/- THE CELL 'sum', in the pinned program and in every row, IS THE sha256 OF THE DUMP (.gsa) THAT YtjlnlbaaiciniaaProg.lean LOADS. Nothing in Lean hashes anything: it is a label: what it is worth is what the hold of that sum in a sandbox is worth. -/
noncomputable def Try.pinned : Pinned := { name := "ytjlnlbaaiciniaa", sum := "334859788719439d4795bc208e85bdb156f87a6f8e542d5da4904d1d21eed43f", checked := Try.checked }
namespace Rows
def none {H : Type} : Left H := { results := [], args := [] }

/-- 'pontagelaw11.AdjustStays': WHATEVER THE INPUT: true; the input reads as it did. -/
def adjustStaysSpec : ChangeSpec := { name := "adjustStays", fn := fun _ => fun
  | [d1, d2, d3, d4] => { results := [.lit (.bool true)], args := [d1, d2, d3, d4] }
  | _ => none }
def adjustStaysRow : OpenClaim := { program := "ytjlnlbaaiciniaa", sum := "334859788719439d4795bc208e85bdb156f87a6f8e542d5da4904d1d21eed43f", func := "pontage/pontagelaw11.AdjustStays", spec := "adjustStays", inPlace := ["math/bits.Add64", "math/bits.Sub64"], unfollowed := true, recurses := true, named := ["math/bits.divideError", "math/bits.overflowError"], apart := false }
def AdjustStaysSaid : Prop := adjustStaysRow.holds Try.pinned (OpenSpec.ofChange adjustStaysSpec)

/-- ITS FALSE NEIGHBOUR: 'it returns false'. Refute it at one input. -/
def adjustStaysWrong : ChangeSpec := { name := "adjustStays", fn := fun _ => fun
  | [d1, d2, d3, d4] => { results := [.lit (.bool false)], args := [d1, d2, d3, d4] }
  | _ => none }
def AdjustStaysWrongFalsely : Prop := adjustStaysRow.holds Try.pinned (OpenSpec.ofChange adjustStaysWrong)

/-- 'pontagelaw11.AdjustNext': WHATEVER THE INPUT: true; the input reads as it did. -/
def adjustNextSpec : ChangeSpec := { name := "adjustNext", fn := fun _ => fun
  | [d1, d2, d3] => { results := [.lit (.bool true)], args := [d1, d2, d3] }
  | _ => none }
def adjustNextRow : OpenClaim := { program := "ytjlnlbaaiciniaa", sum := "334859788719439d4795bc208e85bdb156f87a6f8e542d5da4904d1d21eed43f", func := "pontage/pontagelaw11.AdjustNext", spec := "adjustNext", inPlace := ["math/bits.Add64", "math/bits.Sub64"], unfollowed := true, recurses := true, named := ["math/bits.divideError", "math/bits.overflowError"], apart := false }
def AdjustNextSaid : Prop := adjustNextRow.holds Try.pinned (OpenSpec.ofChange adjustNextSpec)

/-- ITS FALSE NEIGHBOUR: 'it returns false'. Refute it at one input. -/
def adjustNextWrong : ChangeSpec := { name := "adjustNext", fn := fun _ => fun
  | [d1, d2, d3] => { results := [.lit (.bool false)], args := [d1, d2, d3] }
  | _ => none }
def AdjustNextWrongFalsely : Prop := adjustNextRow.holds Try.pinned (OpenSpec.ofChange adjustNextWrong)

/-- 'pontagelaw11.AdjustBounds': WHATEVER THE INPUT: true; the input reads as it did. -/
def adjustBoundsSpec : ChangeSpec := { name := "adjustBounds", fn := fun _ => fun
  | [d1, d2, d3] => { results := [.lit (.bool true)], args := [d1, d2, d3] }
  | _ => none }
def adjustBoundsRow : OpenClaim := { program := "ytjlnlbaaiciniaa", sum := "334859788719439d4795bc208e85bdb156f87a6f8e542d5da4904d1d21eed43f", func := "pontage/pontagelaw11.AdjustBounds", spec := "adjustBounds", inPlace := ["math/bits.Add64", "math/bits.Sub64"], unfollowed := true, recurses := true, named := ["math/bits.divideError", "math/bits.overflowError"], apart := false }
def AdjustBoundsSaid : Prop := adjustBoundsRow.holds Try.pinned (OpenSpec.ofChange adjustBoundsSpec)

/-- ITS FALSE NEIGHBOUR: 'it returns false'. Refute it at one input. -/
def adjustBoundsWrong : ChangeSpec := { name := "adjustBounds", fn := fun _ => fun
  | [d1, d2, d3] => { results := [.lit (.bool false)], args := [d1, d2, d3] }
  | _ => none }
def AdjustBoundsWrongFalsely : Prop := adjustBoundsRow.holds Try.pinned (OpenSpec.ofChange adjustBoundsWrong)

/- THE SECOND FORM. 'bulk': how many values and letters a reading holds, each counted each time it is reached (what is shared counts as often as it is met; a slice's spare places count too). A statement '..UptoSaid' is the law's where the arguments, and the package variables that the reading takes, are together of bulk at most 1048576: NARROWER than '..Said'. Prove '..Said' where nothing that the law and all that it calls make is longer than what came in: it says more and counts as full. Else prove '..UptoSaid'. A law counts once. -/
mutual
def uptoBulk {H : Type} : DataW H → Nat
  | .lit (.string bytes) => bytes.length + 1
  | .lit _ => 1
  | .nil => 1
  | .ptr d => uptoBulk d + 1
  | .slice elems spare => uptoBulkAll elems + uptoBulkAll spare + 1
  | .agg parts => uptoBulkAll parts + 1
  | .iface _ d => uptoBulk d + 1
  | .map entries => uptoBulkEntries entries + 1
  | .held _ => 1
def uptoBulkAll {H : Type} : List (DataW H) → Nat
  | [] => 0
  | d :: r => uptoBulk d + uptoBulkAll r
def uptoBulkEntries {H : Type} : List (Lit × DataW H) → Nat
  | [] => 0
  | x :: r => uptoBulkEntry x + uptoBulkEntries r
def uptoBulkEntry {H : Type} : Lit × DataW H → Nat
  | (.string bytes, d) => bytes.length + uptoBulk d + 1
  | (_, d) => uptoBulk d + 1
 end
def uptoSmall : (H : Type) → List (DataW H) → Bool := fun _ ds => decide (uptoBulkAll ds ≤ 1048576)
def OpenSpec.upto (s : _root_.Go.ChangeSpec) : _root_.Go.OpenSpec := { _root_.Go.OpenSpec.ofChange s with cond := some uptoSmall }

/-- 'pontagelaw11.AdjustStays', WHERE WHAT IT READS IS OF BULK AT MOST 1048576: true; the input reads as it did. -/
def adjustStaysUptoRow : OpenClaim := { program := "ytjlnlbaaiciniaa", sum := "334859788719439d4795bc208e85bdb156f87a6f8e542d5da4904d1d21eed43f", func := "pontage/pontagelaw11.AdjustStays", spec := "adjustStays", inPlace := ["math/bits.Add64", "math/bits.Sub64"], unfollowed := true, recurses := true, named := ["math/bits.divideError", "math/bits.overflowError"], apart := false, narrowed := true }
def AdjustStaysUptoSaid : Prop := adjustStaysUptoRow.holds Try.pinned (OpenSpec.upto adjustStaysSpec)

/-- 'pontagelaw11.AdjustNext', WHERE WHAT IT READS IS OF BULK AT MOST 1048576: true; the input reads as it did. -/
def adjustNextUptoRow : OpenClaim := { program := "ytjlnlbaaiciniaa", sum := "334859788719439d4795bc208e85bdb156f87a6f8e542d5da4904d1d21eed43f", func := "pontage/pontagelaw11.AdjustNext", spec := "adjustNext", inPlace := ["math/bits.Add64", "math/bits.Sub64"], unfollowed := true, recurses := true, named := ["math/bits.divideError", "math/bits.overflowError"], apart := false, narrowed := true }
def AdjustNextUptoSaid : Prop := adjustNextUptoRow.holds Try.pinned (OpenSpec.upto adjustNextSpec)

/-- 'pontagelaw11.AdjustBounds', WHERE WHAT IT READS IS OF BULK AT MOST 1048576: true; the input reads as it did. -/
def adjustBoundsUptoRow : OpenClaim := { program := "ytjlnlbaaiciniaa", sum := "334859788719439d4795bc208e85bdb156f87a6f8e542d5da4904d1d21eed43f", func := "pontage/pontagelaw11.AdjustBounds", spec := "adjustBounds", inPlace := ["math/bits.Add64", "math/bits.Sub64"], unfollowed := true, recurses := true, named := ["math/bits.divideError", "math/bits.overflowError"], apart := false, narrowed := true }
def AdjustBoundsUptoSaid : Prop := adjustBoundsUptoRow.holds Try.pinned (OpenSpec.upto adjustBoundsSpec)

end Rows
end Go.Proofs.Ytjlnlbaaiciniaa
