/-
  No cell of these rows narrows 'for every input' (looked for: loops, veiled, ifaces, maps, wideKeys, modest, calm, conditions, laid).
  DERIVED. THE GIVEN ROWS OF THIS SEAT. 3 by the template 'for every input the law returns true; each argument reads behind the call as it read before'; 0 by the template 'total and deterministic' (their statements: YtjkeoameebdefaaTotals.lean).
  GIVEN WITH THE SEED: the statements are not yours to turn. If you find one false, say at which input.
  Laid BY PROGRAM, IN A SANDBOX (cutbox-rows.mjs): the forced cells as the released guide's own fill.sh prints them over the translation 099bd411a8e268cb… (all of the seat's roots in one cut). By AI agents, Wed Nov 11 2026. No macro, syntax, notation, axiom, sorry.
-/
import Derived.Test.YtjkeoameebdefaaChecked
import GoSem.Claim
import GoSem.ClaimJoined
import GoSem.ClaimMapViews
import Derived.JoinedTies
import Derived.KernelRfl
namespace Go.Proofs.Ytjkeoameebdefaa
/- THE CELL 'sum', in the pinned program and in every row, IS THE sha256 OF THE DUMP (.gsa) THAT YtjkeoameebdefaaProg.lean LOADS. Nothing in Lean hashes anything: it is a label: what it is worth is what the hold of that sum in a sandbox is worth. -/
noncomputable def Try.pinned : Pinned := { name := "ytjkeoameebdefaa", sum := "099bd411a8e268cbd126c711c12bd1b6b0998ff5986fa79b48c6e8e86f03c78a", checked := Try.checked }
namespace Rows
def none {H : Type} : Left H := { results := [], args := [] }

/-- 'pontagelaw16.PurseRounds': WHATEVER THE INPUT: true; the input reads as it did. -/
def purseRoundsSpec : ChangeSpec := { name := "purseRounds", fn := fun _ => fun
  | [d1, d2, d3] => { results := [.lit (.bool true)], args := [d1, d2, d3] }
  | _ => none }
def purseRoundsRow : OpenClaim := { program := "ytjkeoameebdefaa", sum := "099bd411a8e268cbd126c711c12bd1b6b0998ff5986fa79b48c6e8e86f03c78a", func := "pontage/pontagelaw16.PurseRounds", spec := "purseRounds", inPlace := ["maps.clone"], unfollowed := true, recurses := true, apart := false }
def PurseRoundsSaid : Prop := purseRoundsRow.holds Try.pinned (OpenSpec.ofChange purseRoundsSpec)

/-- ITS FALSE NEIGHBOUR: 'it returns false'. Refute it at one input. -/
def purseRoundsWrong : ChangeSpec := { name := "purseRounds", fn := fun _ => fun
  | [d1, d2, d3] => { results := [.lit (.bool false)], args := [d1, d2, d3] }
  | _ => none }
def PurseRoundsWrongFalsely : Prop := purseRoundsRow.holds Try.pinned (OpenSpec.ofChange purseRoundsWrong)

/-- 'pontagelaw16.PursePlays': WHATEVER THE INPUT: true; the input reads as it did. -/
def pursePlaysSpec : ChangeSpec := { name := "pursePlays", fn := fun _ => fun
  | [d1, d2] => { results := [.lit (.bool true)], args := [d1, d2] }
  | _ => none }
def pursePlaysRow : OpenClaim := { program := "ytjkeoameebdefaa", sum := "099bd411a8e268cbd126c711c12bd1b6b0998ff5986fa79b48c6e8e86f03c78a", func := "pontage/pontagelaw16.PursePlays", spec := "pursePlays", inPlace := ["maps.clone"], unfollowed := true, recurses := true, apart := false }
def PursePlaysSaid : Prop := pursePlaysRow.holds Try.pinned (OpenSpec.ofChange pursePlaysSpec)

/-- ITS FALSE NEIGHBOUR: 'it returns false'. Refute it at one input. -/
def pursePlaysWrong : ChangeSpec := { name := "pursePlays", fn := fun _ => fun
  | [d1, d2] => { results := [.lit (.bool false)], args := [d1, d2] }
  | _ => none }
def PursePlaysWrongFalsely : Prop := pursePlaysRow.holds Try.pinned (OpenSpec.ofChange pursePlaysWrong)

/-- 'pontagelaw16.PurseNone': WHATEVER THE INPUT: true; the input reads as it did. -/
def purseNoneSpec : ChangeSpec := { name := "purseNone", fn := fun _ => fun
  | [d1, d2] => { results := [.lit (.bool true)], args := [d1, d2] }
  | _ => none }
def purseNoneRow : OpenClaim := { program := "ytjkeoameebdefaa", sum := "099bd411a8e268cbd126c711c12bd1b6b0998ff5986fa79b48c6e8e86f03c78a", func := "pontage/pontagelaw16.PurseNone", spec := "purseNone", inPlace := ["maps.clone"], unfollowed := true, recurses := true, apart := false }
def PurseNoneSaid : Prop := purseNoneRow.holds Try.pinned (OpenSpec.ofChange purseNoneSpec)

/-- ITS FALSE NEIGHBOUR: 'it returns false'. Refute it at one input. -/
def purseNoneWrong : ChangeSpec := { name := "purseNone", fn := fun _ => fun
  | [d1, d2] => { results := [.lit (.bool false)], args := [d1, d2] }
  | _ => none }
def PurseNoneWrongFalsely : Prop := purseNoneRow.holds Try.pinned (OpenSpec.ofChange purseNoneWrong)

/- THE SECOND FORM. 'bulk': how many values and letters a reading holds, each counted each time it is reached (what is shared counts as often as it is met; a slice's spare places count too). A statement '..UptoSaid' is the law's where the arguments, and the package variables that the reading takes, are together of bulk at most 1048576: NARROWER than '..Said'. Prove '..Said' where nothing that the law and all that it calls make is longer than what came in: it says more and counts as full. Else prove '..UptoSaid'. A law counts once. -/
mutual
def uptoBulk {H : Type} : DataW H → Nat
  | .lit (.string bytes) => bytes.length + 1
  | .lit _ => 1
  | .nil => 1
  | .ptr d => uptoBulk d + 1
  | .slice elems spare => uptoBulkAll elems + uptoBulkAll spare + 1
  | .agg parts => uptoBulkAll parts + 1
  | .iface _ d => uptoBulk d + 1
  | .map entries => uptoBulkEntries entries + 1
  | .held _ => 1
def uptoBulkAll {H : Type} : List (DataW H) → Nat
  | [] => 0
  | d :: r => uptoBulk d + uptoBulkAll r
def uptoBulkEntries {H : Type} : List (Lit × DataW H) → Nat
  | [] => 0
  | x :: r => uptoBulkEntry x + uptoBulkEntries r
def uptoBulkEntry {H : Type} : Lit × DataW H → Nat
  | (.string bytes, d) => bytes.length + uptoBulk d + 1
  | (_, d) => uptoBulk d + 1
 end
def uptoSmall : (H : Type) → List (DataW H) → Bool := fun _ ds => decide (uptoBulkAll ds ≤ 1048576)
def OpenSpec.upto (s : _root_.Go.ChangeSpec) : _root_.Go.OpenSpec := { _root_.Go.OpenSpec.ofChange s with cond := some uptoSmall }

/-- 'pontagelaw16.PurseRounds', WHERE WHAT IT READS IS OF BULK AT MOST 1048576: true; the input reads as it did. -/
def purseRoundsUptoRow : OpenClaim := { program := "ytjkeoameebdefaa", sum := "099bd411a8e268cbd126c711c12bd1b6b0998ff5986fa79b48c6e8e86f03c78a", func := "pontage/pontagelaw16.PurseRounds", spec := "purseRounds", inPlace := ["maps.clone"], unfollowed := true, recurses := true, apart := false, narrowed := true }
def PurseRoundsUptoSaid : Prop := purseRoundsUptoRow.holds Try.pinned (OpenSpec.upto purseRoundsSpec)

/-- 'pontagelaw16.PursePlays', WHERE WHAT IT READS IS OF BULK AT MOST 1048576: true; the input reads as it did. -/
def pursePlaysUptoRow : OpenClaim := { program := "ytjkeoameebdefaa", sum := "099bd411a8e268cbd126c711c12bd1b6b0998ff5986fa79b48c6e8e86f03c78a", func := "pontage/pontagelaw16.PursePlays", spec := "pursePlays", inPlace := ["maps.clone"], unfollowed := true, recurses := true, apart := false, narrowed := true }
def PursePlaysUptoSaid : Prop := pursePlaysUptoRow.holds Try.pinned (OpenSpec.upto pursePlaysSpec)

/-- 'pontagelaw16.PurseNone', WHERE WHAT IT READS IS OF BULK AT MOST 1048576: true; the input reads as it did. -/
def purseNoneUptoRow : OpenClaim := { program := "ytjkeoameebdefaa", sum := "099bd411a8e268cbd126c711c12bd1b6b0998ff5986fa79b48c6e8e86f03c78a", func := "pontage/pontagelaw16.PurseNone", spec := "purseNone", inPlace := ["maps.clone"], unfollowed := true, recurses := true, apart := false, narrowed := true }
def PurseNoneUptoSaid : Prop := purseNoneUptoRow.holds Try.pinned (OpenSpec.upto purseNoneSpec)

end Rows
end Go.Proofs.Ytjkeoameebdefaa
