/-
  DERIVED. GIVEN WITH THE SEED: THE CARDS: each row of YtjlelckefiannaaGreatDoorRows.lean that lists a variable, with what it lists TIED to the program's text (the seventh form; the later family's looks); each row that meets fmt, with fmt's text TOLD by the authors' own Lean function (tested against real Go, not proved from fmt's source: count such statements apart). THE CARD IS WHAT COUNTS. Prove the row's statement (the work); the ties are given (YtjlelckefiannaaGreatDoorTie.lean); close each card by the builder's one call (the guide's Derived/Test/ToyasCard.lean, 'card_holds'). Laid BY PROGRAM, IN A SANDBOX (cutbox-door.mjs). By AI agents, Wed Nov 11 2026. No macro, syntax, notation, axiom, sorry.
-/
import Derived.Test.YtjlelckefiannaaGreatDoorRows
import GoSem.ClaimSeven
namespace Go.Proofs.YtjlelckefiannaaGreatDoor
namespace Rows

/-- THE TIED CARD OF 'pontagelaw14.SpvBytes'. -/
def spvBytesCard : Claim7 := { stood := { row := spvBytesRow, standIns := [], harness := (true, "6d6c11cef34a16d170474d8560692ec4e38a1d37c598f130da1701e18f834c1c"), looks := false }, kinds := [], alts := [], laidByText := true, laidKinds := [.data], laidTests := true, laidLooks := .later }
def SpvBytesCardSaid : Prop := Claim7.holds Tryz.pinned (.plain (OpenSpec.ofChange spvBytesSpec)) spvBytesCard

/-- THE TIED CARD OF 'pontagelaw14.SpvChecks'. -/
def spvChecksCard : Claim7 := { stood := { row := spvChecksRow, standIns := [], harness := (true, "6d6c11cef34a16d170474d8560692ec4e38a1d37c598f130da1701e18f834c1c"), looks := false }, kinds := [], alts := [], laidByText := true, laidKinds := [.data], laidTests := true, laidLooks := .later }
def SpvChecksCardSaid : Prop := Claim7.holds Tryz.pinned (.plain (OpenSpec.ofChange spvChecksSpec)) spvChecksCard

/-- THE TIED CARD OF 'pontagelaw14.SpvPays'. -/
def spvPaysCard : Claim7 := { stood := { row := spvPaysRow, standIns := [], harness := (true, "6d6c11cef34a16d170474d8560692ec4e38a1d37c598f130da1701e18f834c1c"), looks := false }, kinds := [], alts := [], laidByText := true, laidKinds := [.data], laidTests := true, laidLooks := .later }
def SpvPaysCardSaid : Prop := Claim7.holds Tryz.pinned (.plain (OpenSpec.ofChange spvPaysSpec)) spvPaysCard

/-- THE SECOND FORM's CARD OF 'pontagelaw14.SpvBytes'. -/
def spvBytesUptoCard : Claim7 := { stood := { row := spvBytesUptoRow, standIns := [], harness := (true, "6d6c11cef34a16d170474d8560692ec4e38a1d37c598f130da1701e18f834c1c"), looks := false }, kinds := [], alts := [], laidByText := true, laidKinds := [.data], laidTests := true, laidLooks := .later }
def SpvBytesUptoCardSaid : Prop := Claim7.holds Tryz.pinned (.plain (OpenSpec.upto spvBytesSpec)) spvBytesUptoCard

/-- THE SECOND FORM's CARD OF 'pontagelaw14.SpvChecks'. -/
def spvChecksUptoCard : Claim7 := { stood := { row := spvChecksUptoRow, standIns := [], harness := (true, "6d6c11cef34a16d170474d8560692ec4e38a1d37c598f130da1701e18f834c1c"), looks := false }, kinds := [], alts := [], laidByText := true, laidKinds := [.data], laidTests := true, laidLooks := .later }
def SpvChecksUptoCardSaid : Prop := Claim7.holds Tryz.pinned (.plain (OpenSpec.upto spvChecksSpec)) spvChecksUptoCard

/-- THE SECOND FORM's CARD OF 'pontagelaw14.SpvPays'. -/
def spvPaysUptoCard : Claim7 := { stood := { row := spvPaysUptoRow, standIns := [], harness := (true, "6d6c11cef34a16d170474d8560692ec4e38a1d37c598f130da1701e18f834c1c"), looks := false }, kinds := [], alts := [], laidByText := true, laidKinds := [.data], laidTests := true, laidLooks := .later }
def SpvPaysUptoCardSaid : Prop := Claim7.holds Tryz.pinned (.plain (OpenSpec.upto spvPaysSpec)) spvPaysUptoCard
end Rows
end Go.Proofs.YtjlelckefiannaaGreatDoor
