/-
  DERIVED. GIVEN WITH THE SEED: THE CARDS: each row of YtfjcplfhkahamaaGreatDoorRows.lean that lists a variable, with what it lists TIED to the program's text (the seventh form; the later family's looks); each row that meets fmt, with fmt's text TOLD by the authors' own Lean function (tested against real Go, not proved from fmt's source: count such statements apart). THE CARD IS WHAT COUNTS. Prove the row's statement (the work); the ties are given (YtfjcplfhkahamaaGreatDoorTie.lean); close each card by the builder's one call (the guide's Derived/Test/ToyasCard.lean, 'card_holds'). Laid BY PROGRAM, IN A SANDBOX (cutbox-door.mjs). By AI agents, Wed Nov 11 2026. No macro, syntax, notation, axiom, sorry.
-/
import Derived.Test.YtfjcplfhkahamaaGreatDoorRows
import GoSem.ClaimSeven
namespace Go.Proofs.YtfjcplfhkahamaaGreatDoor
namespace Rows

/-- THE TIED CARD OF 'pontagelaw12.TreeGrows'. -/
def treeGrowsCard : Claim7 := { stood := { row := treeGrowsRow, standIns := [], harness := (true, "cf388d85af48a96ab16decdc4b6ed2520e73a2794596c25ac1fadea155934b37"), looks := false }, kinds := [], alts := [], laidByText := true, laidKinds := [.data], laidTests := true, laidLooks := .later }
def TreeGrowsCardSaid : Prop := Claim7.holds Tryz.pinned (.plain (OpenSpec.ofChange treeGrowsSpec)) treeGrowsCard

/-- THE TIED CARD OF 'pontagelaw12.TreeForks'. -/
def treeForksCard : Claim7 := { stood := { row := treeForksRow, standIns := [], harness := (true, "cf388d85af48a96ab16decdc4b6ed2520e73a2794596c25ac1fadea155934b37"), looks := false }, kinds := [], alts := [], laidByText := true, laidKinds := [.data], laidTests := true, laidLooks := .later }
def TreeForksCardSaid : Prop := Claim7.holds Tryz.pinned (.plain (OpenSpec.ofChange treeForksSpec)) treeForksCard

/-- THE SECOND FORM's CARD OF 'pontagelaw12.TreeGrows'. -/
def treeGrowsUptoCard : Claim7 := { stood := { row := treeGrowsUptoRow, standIns := [], harness := (true, "cf388d85af48a96ab16decdc4b6ed2520e73a2794596c25ac1fadea155934b37"), looks := false }, kinds := [], alts := [], laidByText := true, laidKinds := [.data], laidTests := true, laidLooks := .later }
def TreeGrowsUptoCardSaid : Prop := Claim7.holds Tryz.pinned (.plain (OpenSpec.upto treeGrowsSpec)) treeGrowsUptoCard

/-- THE SECOND FORM's CARD OF 'pontagelaw12.TreeForks'. -/
def treeForksUptoCard : Claim7 := { stood := { row := treeForksUptoRow, standIns := [], harness := (true, "cf388d85af48a96ab16decdc4b6ed2520e73a2794596c25ac1fadea155934b37"), looks := false }, kinds := [], alts := [], laidByText := true, laidKinds := [.data], laidTests := true, laidLooks := .later }
def TreeForksUptoCardSaid : Prop := Claim7.holds Tryz.pinned (.plain (OpenSpec.upto treeForksSpec)) treeForksUptoCard
end Rows
end Go.Proofs.YtfjcplfhkahamaaGreatDoor
