/-
  NARROWER THAN 'FOR EVERY INPUT', by the rows' own cells (each row's printed sentence says how): TreeForks: laid · RelayDepths: laid · RelaySubmits: laid · RelayStays: laid · RelayRules: laid.
  DERIVED. THE GIVEN ROWS OF THIS SEAT. 5 by the template 'for every input the law returns true; each argument reads behind the call as it read before'; 0 by the template 'total and deterministic' (their statements: YtedffdlkmpmdlaaGreatDoorTotals.lean).
  GIVEN WITH THE SEED: the statements are not yours to turn. If you find one false, say at which input.
  Laid BY PROGRAM, IN A SANDBOX (cutbox-rows.mjs): the forced cells as the released guide's own fill.sh prints them over the translation 638004e5a6b4befb… (all of the seat's roots in one cut). By AI agents, Wed Nov 11 2026. No macro, syntax, notation, axiom, sorry.
-/
import Derived.Test.YtedffdlkmpmdlaaGreatDoorChecked
import GoSem.Claim
import GoSem.ClaimJoined
import GoSem.ClaimMapViews
import Derived.JoinedTies
import Derived.KernelRfl
namespace Go.Proofs.YtedffdlkmpmdlaaGreatDoor
/- THE CELL 'sum', in the pinned program and in every row, IS THE sha256 OF THE DUMP (.gsa) THAT YtedffdlkmpmdlaaGreatDoorProg.lean LOADS. Nothing in Lean hashes anything: it is a label: what it is worth is what the hold of that sum in a sandbox is worth. -/
noncomputable def Tryz.pinned : Pinned := { name := "ytedffdlkmpmdlaagreatdoor", sum := "638004e5a6b4befbdb4d0a538119fa114489dfc84986601fff02d2d2ad82f53e", checked := Tryz.checked }
namespace Rows
def none {H : Type} : Left H := { results := [], args := [] }

/- WHAT THE LISTED PACKAGE-LEVEL VARIABLES READ AS WHEN THE CALL BEGINS. Each datum BY PROGRAM (the guide's laid-datum.mjs) off the statement by which the dump's own 'gosem.cut.vars' lays the variable. In a bare row this is a premise. The card (YtedffdlkmpmdlaaGreatDoorCards.lean) ties it to the program's text. -/
def laid_pontage_digest_cubes {H : Type} : DataW H := .agg [.lit (.int .u32 1116352408), .lit (.int .u32 1899447441), .lit (.int .u32 3049323471), .lit (.int .u32 3921009573), .lit (.int .u32 961987163), .lit (.int .u32 1508970993), .lit (.int .u32 2453635748), .lit (.int .u32 2870763221), .lit (.int .u32 3624381080), .lit (.int .u32 310598401), .lit (.int .u32 607225278), .lit (.int .u32 1426881987), .lit (.int .u32 1925078388), .lit (.int .u32 2162078206), .lit (.int .u32 2614888103), .lit (.int .u32 3248222580), .lit (.int .u32 3835390401), .lit (.int .u32 4022224774), .lit (.int .u32 264347078), .lit (.int .u32 604807628), .lit (.int .u32 770255983), .lit (.int .u32 1249150122), .lit (.int .u32 1555081692), .lit (.int .u32 1996064986), .lit (.int .u32 2554220882), .lit (.int .u32 2821834349), .lit (.int .u32 2952996808), .lit (.int .u32 3210313671), .lit (.int .u32 3336571891), .lit (.int .u32 3584528711), .lit (.int .u32 113926993), .lit (.int .u32 338241895), .lit (.int .u32 666307205), .lit (.int .u32 773529912), .lit (.int .u32 1294757372), .lit (.int .u32 1396182291), .lit (.int .u32 1695183700), .lit (.int .u32 1986661051), .lit (.int .u32 2177026350), .lit (.int .u32 2456956037), .lit (.int .u32 2730485921), .lit (.int .u32 2820302411), .lit (.int .u32 3259730800), .lit (.int .u32 3345764771), .lit (.int .u32 3516065817), .lit (.int .u32 3600352804), .lit (.int .u32 4094571909), .lit (.int .u32 275423344), .lit (.int .u32 430227734), .lit (.int .u32 506948616), .lit (.int .u32 659060556), .lit (.int .u32 883997877), .lit (.int .u32 958139571), .lit (.int .u32 1322822218), .lit (.int .u32 1537002063), .lit (.int .u32 1747873779), .lit (.int .u32 1955562222), .lit (.int .u32 2024104815), .lit (.int .u32 2227730452), .lit (.int .u32 2361852424), .lit (.int .u32 2428436474), .lit (.int .u32 2756734187), .lit (.int .u32 3204031479), .lit (.int .u32 3329325298)]

/-- 'pontagelaw12.TreeForks': WHATEVER THE INPUT: true; the input reads as it did. -/
def treeForksSpec : ChangeSpec := { name := "treeForks", fn := fun _ => fun
  | [d] => { results := [.lit (.bool true)], args := [d] }
  | _ => none }
def treeForksRow : OpenClaim := { program := "ytedffdlkmpmdlaagreatdoor", sum := "638004e5a6b4befbdb4d0a538119fa114489dfc84986601fff02d2d2ad82f53e", func := "pontage/pontagelaw12.TreeForks", spec := "treeForks", inPlace := ["math/bits.Add64", "math/bits.Sub64"], unfollowed := true, recurses := true, named := ["pontage/digest.cubes", "math/bits.divideError", "math/bits.overflowError"], plainKeys := false, apart := false, laid := [("pontage/digest.cubes", laid_pontage_digest_cubes)] }
def TreeForksSaid : Prop := treeForksRow.holds Tryz.pinned (OpenSpec.ofChange treeForksSpec)

/-- ITS FALSE NEIGHBOUR: 'it returns false'. Refute it at one input. -/
def treeForksWrong : ChangeSpec := { name := "treeForks", fn := fun _ => fun
  | [d] => { results := [.lit (.bool false)], args := [d] }
  | _ => none }
def TreeForksWrongFalsely : Prop := treeForksRow.holds Tryz.pinned (OpenSpec.ofChange treeForksWrong)

/-- 'pontagelaw13.RelayDepths': WHATEVER THE INPUT: true; the input reads as it did. -/
def relayDepthsSpec : ChangeSpec := { name := "relayDepths", fn := fun _ => fun
  | [d1, d2, d3] => { results := [.lit (.bool true)], args := [d1, d2, d3] }
  | _ => none }
def relayDepthsRow : OpenClaim := { program := "ytedffdlkmpmdlaagreatdoor", sum := "638004e5a6b4befbdb4d0a538119fa114489dfc84986601fff02d2d2ad82f53e", func := "pontage/pontagelaw13.RelayDepths", spec := "relayDepths", inPlace := ["math/bits.Add64", "math/bits.Sub64"], unfollowed := true, recurses := true, named := ["pontage/digest.cubes", "math/bits.divideError", "math/bits.overflowError"], plainKeys := false, apart := false, laid := [("pontage/digest.cubes", laid_pontage_digest_cubes)] }
def RelayDepthsSaid : Prop := relayDepthsRow.holds Tryz.pinned (OpenSpec.ofChange relayDepthsSpec)

/-- ITS FALSE NEIGHBOUR: 'it returns false'. Refute it at one input. -/
def relayDepthsWrong : ChangeSpec := { name := "relayDepths", fn := fun _ => fun
  | [d1, d2, d3] => { results := [.lit (.bool false)], args := [d1, d2, d3] }
  | _ => none }
def RelayDepthsWrongFalsely : Prop := relayDepthsRow.holds Tryz.pinned (OpenSpec.ofChange relayDepthsWrong)

/-- 'pontagelaw13.RelaySubmits': WHATEVER THE INPUT: true; the input reads as it did. -/
def relaySubmitsSpec : ChangeSpec := { name := "relaySubmits", fn := fun _ => fun
  | [d1, d2, d3, d4] => { results := [.lit (.bool true)], args := [d1, d2, d3, d4] }
  | _ => none }
def relaySubmitsRow : OpenClaim := { program := "ytedffdlkmpmdlaagreatdoor", sum := "638004e5a6b4befbdb4d0a538119fa114489dfc84986601fff02d2d2ad82f53e", func := "pontage/pontagelaw13.RelaySubmits", spec := "relaySubmits", inPlace := ["math/bits.Add64", "math/bits.Sub64"], unfollowed := true, recurses := true, named := ["pontage/digest.cubes", "math/bits.divideError", "math/bits.overflowError"], plainKeys := false, apart := false, laid := [("pontage/digest.cubes", laid_pontage_digest_cubes)] }
def RelaySubmitsSaid : Prop := relaySubmitsRow.holds Tryz.pinned (OpenSpec.ofChange relaySubmitsSpec)

/-- ITS FALSE NEIGHBOUR: 'it returns false'. Refute it at one input. -/
def relaySubmitsWrong : ChangeSpec := { name := "relaySubmits", fn := fun _ => fun
  | [d1, d2, d3, d4] => { results := [.lit (.bool false)], args := [d1, d2, d3, d4] }
  | _ => none }
def RelaySubmitsWrongFalsely : Prop := relaySubmitsRow.holds Tryz.pinned (OpenSpec.ofChange relaySubmitsWrong)

/-- 'pontagelaw13.RelayStays': WHATEVER THE INPUT: true; the input reads as it did. -/
def relayStaysSpec : ChangeSpec := { name := "relayStays", fn := fun _ => fun
  | [d1, d2, d3] => { results := [.lit (.bool true)], args := [d1, d2, d3] }
  | _ => none }
def relayStaysRow : OpenClaim := { program := "ytedffdlkmpmdlaagreatdoor", sum := "638004e5a6b4befbdb4d0a538119fa114489dfc84986601fff02d2d2ad82f53e", func := "pontage/pontagelaw13.RelayStays", spec := "relayStays", inPlace := ["math/bits.Add64", "math/bits.Sub64"], unfollowed := true, recurses := true, named := ["pontage/digest.cubes", "math/bits.divideError", "math/bits.overflowError"], plainKeys := false, apart := false, laid := [("pontage/digest.cubes", laid_pontage_digest_cubes)] }
def RelayStaysSaid : Prop := relayStaysRow.holds Tryz.pinned (OpenSpec.ofChange relayStaysSpec)

/-- ITS FALSE NEIGHBOUR: 'it returns false'. Refute it at one input. -/
def relayStaysWrong : ChangeSpec := { name := "relayStays", fn := fun _ => fun
  | [d1, d2, d3] => { results := [.lit (.bool false)], args := [d1, d2, d3] }
  | _ => none }
def RelayStaysWrongFalsely : Prop := relayStaysRow.holds Tryz.pinned (OpenSpec.ofChange relayStaysWrong)

/-- 'pontagelaw13.RelayRules': WHATEVER THE INPUT: true; the input reads as it did. -/
def relayRulesSpec : ChangeSpec := { name := "relayRules", fn := fun _ => fun
  | [d] => { results := [.lit (.bool true)], args := [d] }
  | _ => none }
def relayRulesRow : OpenClaim := { program := "ytedffdlkmpmdlaagreatdoor", sum := "638004e5a6b4befbdb4d0a538119fa114489dfc84986601fff02d2d2ad82f53e", func := "pontage/pontagelaw13.RelayRules", spec := "relayRules", inPlace := ["math/bits.Add64", "math/bits.Sub64"], unfollowed := true, recurses := true, named := ["pontage/digest.cubes", "math/bits.divideError", "math/bits.overflowError"], plainKeys := false, apart := false, laid := [("pontage/digest.cubes", laid_pontage_digest_cubes)] }
def RelayRulesSaid : Prop := relayRulesRow.holds Tryz.pinned (OpenSpec.ofChange relayRulesSpec)

/-- ITS FALSE NEIGHBOUR: 'it returns false'. Refute it at one input. -/
def relayRulesWrong : ChangeSpec := { name := "relayRules", fn := fun _ => fun
  | [d] => { results := [.lit (.bool false)], args := [d] }
  | _ => none }
def RelayRulesWrongFalsely : Prop := relayRulesRow.holds Tryz.pinned (OpenSpec.ofChange relayRulesWrong)

/- THE SECOND FORM. 'bulk': how many values and letters a reading holds, each counted each time it is reached (what is shared counts as often as it is met; a slice's spare places count too). A statement '..UptoSaid' is the law's where the arguments, and the package variables that the reading takes, are together of bulk at most 1048576: NARROWER than '..Said'. Prove '..Said' where nothing that the law and all that it calls make is longer than what came in: it says more and counts as full. Else prove '..UptoSaid'. A law counts once. -/
mutual
def uptoBulk {H : Type} : DataW H → Nat
  | .lit (.string bytes) => bytes.length + 1
  | .lit _ => 1
  | .nil => 1
  | .ptr d => uptoBulk d + 1
  | .slice elems spare => uptoBulkAll elems + uptoBulkAll spare + 1
  | .agg parts => uptoBulkAll parts + 1
  | .iface _ d => uptoBulk d + 1
  | .map entries => uptoBulkEntries entries + 1
  | .held _ => 1
def uptoBulkAll {H : Type} : List (DataW H) → Nat
  | [] => 0
  | d :: r => uptoBulk d + uptoBulkAll r
def uptoBulkEntries {H : Type} : List (Lit × DataW H) → Nat
  | [] => 0
  | x :: r => uptoBulkEntry x + uptoBulkEntries r
def uptoBulkEntry {H : Type} : Lit × DataW H → Nat
  | (.string bytes, d) => bytes.length + uptoBulk d + 1
  | (_, d) => uptoBulk d + 1
 end
def uptoSmall : (H : Type) → List (DataW H) → Bool := fun _ ds => decide (uptoBulkAll ds ≤ 1048576)
def OpenSpec.upto (s : _root_.Go.ChangeSpec) : _root_.Go.OpenSpec := { _root_.Go.OpenSpec.ofChange s with cond := some uptoSmall }

/-- 'pontagelaw12.TreeForks', WHERE WHAT IT READS IS OF BULK AT MOST 1048576: true; the input reads as it did. -/
def treeForksUptoRow : OpenClaim := { program := "ytedffdlkmpmdlaagreatdoor", sum := "638004e5a6b4befbdb4d0a538119fa114489dfc84986601fff02d2d2ad82f53e", func := "pontage/pontagelaw12.TreeForks", spec := "treeForks", inPlace := ["math/bits.Add64", "math/bits.Sub64"], unfollowed := true, recurses := true, named := ["pontage/digest.cubes", "math/bits.divideError", "math/bits.overflowError"], plainKeys := false, apart := false, laid := [("pontage/digest.cubes", laid_pontage_digest_cubes)], narrowed := true }
def TreeForksUptoSaid : Prop := treeForksUptoRow.holds Tryz.pinned (OpenSpec.upto treeForksSpec)

/-- 'pontagelaw13.RelayDepths', WHERE WHAT IT READS IS OF BULK AT MOST 1048576: true; the input reads as it did. -/
def relayDepthsUptoRow : OpenClaim := { program := "ytedffdlkmpmdlaagreatdoor", sum := "638004e5a6b4befbdb4d0a538119fa114489dfc84986601fff02d2d2ad82f53e", func := "pontage/pontagelaw13.RelayDepths", spec := "relayDepths", inPlace := ["math/bits.Add64", "math/bits.Sub64"], unfollowed := true, recurses := true, named := ["pontage/digest.cubes", "math/bits.divideError", "math/bits.overflowError"], plainKeys := false, apart := false, laid := [("pontage/digest.cubes", laid_pontage_digest_cubes)], narrowed := true }
def RelayDepthsUptoSaid : Prop := relayDepthsUptoRow.holds Tryz.pinned (OpenSpec.upto relayDepthsSpec)

/-- 'pontagelaw13.RelaySubmits', WHERE WHAT IT READS IS OF BULK AT MOST 1048576: true; the input reads as it did. -/
def relaySubmitsUptoRow : OpenClaim := { program := "ytedffdlkmpmdlaagreatdoor", sum := "638004e5a6b4befbdb4d0a538119fa114489dfc84986601fff02d2d2ad82f53e", func := "pontage/pontagelaw13.RelaySubmits", spec := "relaySubmits", inPlace := ["math/bits.Add64", "math/bits.Sub64"], unfollowed := true, recurses := true, named := ["pontage/digest.cubes", "math/bits.divideError", "math/bits.overflowError"], plainKeys := false, apart := false, laid := [("pontage/digest.cubes", laid_pontage_digest_cubes)], narrowed := true }
def RelaySubmitsUptoSaid : Prop := relaySubmitsUptoRow.holds Tryz.pinned (OpenSpec.upto relaySubmitsSpec)

/-- 'pontagelaw13.RelayStays', WHERE WHAT IT READS IS OF BULK AT MOST 1048576: true; the input reads as it did. -/
def relayStaysUptoRow : OpenClaim := { program := "ytedffdlkmpmdlaagreatdoor", sum := "638004e5a6b4befbdb4d0a538119fa114489dfc84986601fff02d2d2ad82f53e", func := "pontage/pontagelaw13.RelayStays", spec := "relayStays", inPlace := ["math/bits.Add64", "math/bits.Sub64"], unfollowed := true, recurses := true, named := ["pontage/digest.cubes", "math/bits.divideError", "math/bits.overflowError"], plainKeys := false, apart := false, laid := [("pontage/digest.cubes", laid_pontage_digest_cubes)], narrowed := true }
def RelayStaysUptoSaid : Prop := relayStaysUptoRow.holds Tryz.pinned (OpenSpec.upto relayStaysSpec)

/-- 'pontagelaw13.RelayRules', WHERE WHAT IT READS IS OF BULK AT MOST 1048576: true; the input reads as it did. -/
def relayRulesUptoRow : OpenClaim := { program := "ytedffdlkmpmdlaagreatdoor", sum := "638004e5a6b4befbdb4d0a538119fa114489dfc84986601fff02d2d2ad82f53e", func := "pontage/pontagelaw13.RelayRules", spec := "relayRules", inPlace := ["math/bits.Add64", "math/bits.Sub64"], unfollowed := true, recurses := true, named := ["pontage/digest.cubes", "math/bits.divideError", "math/bits.overflowError"], plainKeys := false, apart := false, laid := [("pontage/digest.cubes", laid_pontage_digest_cubes)], narrowed := true }
def RelayRulesUptoSaid : Prop := relayRulesUptoRow.holds Tryz.pinned (OpenSpec.upto relayRulesSpec)

end Rows
end Go.Proofs.YtedffdlkmpmdlaaGreatDoor
