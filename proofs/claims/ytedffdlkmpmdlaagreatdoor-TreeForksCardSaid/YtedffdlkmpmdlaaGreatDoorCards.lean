/-
  DERIVED. GIVEN WITH THE SEED: THE CARDS: each row of YtedffdlkmpmdlaaGreatDoorRows.lean that lists a variable, with what it lists TIED to the program's text (the seventh form; the later family's looks); each row that meets fmt, with fmt's text TOLD by the authors' own Lean function (tested against real Go, not proved from fmt's source: count such statements apart). THE CARD IS WHAT COUNTS. Prove the row's statement (the work); the ties are given (YtedffdlkmpmdlaaGreatDoorTie.lean); close each card by the builder's one call (the guide's Derived/Test/ToyasCard.lean, 'card_holds'). Laid BY PROGRAM, IN A SANDBOX (cutbox-door.mjs). By AI agents, Wed Nov 11 2026. No macro, syntax, notation, axiom, sorry.
-/
import Derived.Test.YtedffdlkmpmdlaaGreatDoorRows
import GoSem.ClaimSeven
namespace Go.Proofs.YtedffdlkmpmdlaaGreatDoor
namespace Rows

/-- THE TIED CARD OF 'pontagelaw12.TreeForks'. -/
def treeForksCard : Claim7 := { stood := { row := treeForksRow, standIns := [], harness := (true, "dd10ae1c23488fea4b8661eeaf17ede511ec8a7ee660533379ebeeba851e7151"), looks := false }, kinds := [], alts := [], laidByText := true, laidKinds := [.data], laidTests := true, laidLooks := .later }
def TreeForksCardSaid : Prop := Claim7.holds Tryz.pinned (.plain (OpenSpec.ofChange treeForksSpec)) treeForksCard

/-- THE TIED CARD OF 'pontagelaw13.RelayDepths'. -/
def relayDepthsCard : Claim7 := { stood := { row := relayDepthsRow, standIns := [], harness := (true, "dd10ae1c23488fea4b8661eeaf17ede511ec8a7ee660533379ebeeba851e7151"), looks := false }, kinds := [], alts := [], laidByText := true, laidKinds := [.data], laidTests := true, laidLooks := .later }
def RelayDepthsCardSaid : Prop := Claim7.holds Tryz.pinned (.plain (OpenSpec.ofChange relayDepthsSpec)) relayDepthsCard

/-- THE TIED CARD OF 'pontagelaw13.RelaySubmits'. -/
def relaySubmitsCard : Claim7 := { stood := { row := relaySubmitsRow, standIns := [], harness := (true, "dd10ae1c23488fea4b8661eeaf17ede511ec8a7ee660533379ebeeba851e7151"), looks := false }, kinds := [], alts := [], laidByText := true, laidKinds := [.data], laidTests := true, laidLooks := .later }
def RelaySubmitsCardSaid : Prop := Claim7.holds Tryz.pinned (.plain (OpenSpec.ofChange relaySubmitsSpec)) relaySubmitsCard

/-- THE TIED CARD OF 'pontagelaw13.RelayStays'. -/
def relayStaysCard : Claim7 := { stood := { row := relayStaysRow, standIns := [], harness := (true, "dd10ae1c23488fea4b8661eeaf17ede511ec8a7ee660533379ebeeba851e7151"), looks := false }, kinds := [], alts := [], laidByText := true, laidKinds := [.data], laidTests := true, laidLooks := .later }
def RelayStaysCardSaid : Prop := Claim7.holds Tryz.pinned (.plain (OpenSpec.ofChange relayStaysSpec)) relayStaysCard

/-- THE TIED CARD OF 'pontagelaw13.RelayRules'. -/
def relayRulesCard : Claim7 := { stood := { row := relayRulesRow, standIns := [], harness := (true, "dd10ae1c23488fea4b8661eeaf17ede511ec8a7ee660533379ebeeba851e7151"), looks := false }, kinds := [], alts := [], laidByText := true, laidKinds := [.data], laidTests := true, laidLooks := .later }
def RelayRulesCardSaid : Prop := Claim7.holds Tryz.pinned (.plain (OpenSpec.ofChange relayRulesSpec)) relayRulesCard

/-- THE SECOND FORM's CARD OF 'pontagelaw12.TreeForks'. -/
def treeForksUptoCard : Claim7 := { stood := { row := treeForksUptoRow, standIns := [], harness := (true, "dd10ae1c23488fea4b8661eeaf17ede511ec8a7ee660533379ebeeba851e7151"), looks := false }, kinds := [], alts := [], laidByText := true, laidKinds := [.data], laidTests := true, laidLooks := .later }
def TreeForksUptoCardSaid : Prop := Claim7.holds Tryz.pinned (.plain (OpenSpec.upto treeForksSpec)) treeForksUptoCard

/-- THE SECOND FORM's CARD OF 'pontagelaw13.RelayDepths'. -/
def relayDepthsUptoCard : Claim7 := { stood := { row := relayDepthsUptoRow, standIns := [], harness := (true, "dd10ae1c23488fea4b8661eeaf17ede511ec8a7ee660533379ebeeba851e7151"), looks := false }, kinds := [], alts := [], laidByText := true, laidKinds := [.data], laidTests := true, laidLooks := .later }
def RelayDepthsUptoCardSaid : Prop := Claim7.holds Tryz.pinned (.plain (OpenSpec.upto relayDepthsSpec)) relayDepthsUptoCard

/-- THE SECOND FORM's CARD OF 'pontagelaw13.RelaySubmits'. -/
def relaySubmitsUptoCard : Claim7 := { stood := { row := relaySubmitsUptoRow, standIns := [], harness := (true, "dd10ae1c23488fea4b8661eeaf17ede511ec8a7ee660533379ebeeba851e7151"), looks := false }, kinds := [], alts := [], laidByText := true, laidKinds := [.data], laidTests := true, laidLooks := .later }
def RelaySubmitsUptoCardSaid : Prop := Claim7.holds Tryz.pinned (.plain (OpenSpec.upto relaySubmitsSpec)) relaySubmitsUptoCard

/-- THE SECOND FORM's CARD OF 'pontagelaw13.RelayStays'. -/
def relayStaysUptoCard : Claim7 := { stood := { row := relayStaysUptoRow, standIns := [], harness := (true, "dd10ae1c23488fea4b8661eeaf17ede511ec8a7ee660533379ebeeba851e7151"), looks := false }, kinds := [], alts := [], laidByText := true, laidKinds := [.data], laidTests := true, laidLooks := .later }
def RelayStaysUptoCardSaid : Prop := Claim7.holds Tryz.pinned (.plain (OpenSpec.upto relayStaysSpec)) relayStaysUptoCard

/-- THE SECOND FORM's CARD OF 'pontagelaw13.RelayRules'. -/
def relayRulesUptoCard : Claim7 := { stood := { row := relayRulesUptoRow, standIns := [], harness := (true, "dd10ae1c23488fea4b8661eeaf17ede511ec8a7ee660533379ebeeba851e7151"), looks := false }, kinds := [], alts := [], laidByText := true, laidKinds := [.data], laidTests := true, laidLooks := .later }
def RelayRulesUptoCardSaid : Prop := Claim7.holds Tryz.pinned (.plain (OpenSpec.upto relayRulesSpec)) relayRulesUptoCard
end Rows
end Go.Proofs.YtedffdlkmpmdlaaGreatDoor
