/-
  DERIVED. GIVEN WITH THE SEED: THE CARDS: each row of YtaobgaoldfeehaaDoorRows.lean that lists a variable, with what it lists TIED to the program's text (the seventh form; the later family's looks); each row that meets fmt, with fmt's text TOLD by the authors' own Lean function (tested against real Go, not proved from fmt's source: count such statements apart). THE CARD IS WHAT COUNTS. Prove the row's statement (the work); the ties are given (YtaobgaoldfeehaaDoorTie.lean); close each card by the builder's one call (the guide's Derived/Test/ToyasCard.lean, 'card_holds'). Laid BY PROGRAM, IN A SANDBOX (cutbox-door.mjs). By AI agents, Wed Nov 11 2026. No macro, syntax, notation, axiom, sorry.
-/
import Derived.Test.YtaobgaoldfeehaaDoorRows
import GoSem.ClaimSeven
namespace Go.Proofs.YtaobgaoldfeehaaDoor
namespace Rows

/-- THE TIED CARD OF 'pontagelaw09.TxBytes'. -/
def txBytesCard : Claim7 := { stood := { row := txBytesRow, standIns := [], harness := (true, "7a0f1606076cf021726c127c06cdff367e380548202f347a8310d864b7cb85c4"), looks := false }, kinds := [], alts := [], laidByText := true, laidKinds := [.data], laidTests := true, laidLooks := .later }
def TxBytesCardSaid : Prop := Claim7.holds Tryd.pinned (.plain (OpenSpec.ofChange txBytesSpec)) txBytesCard

/-- THE SECOND FORM's CARD OF 'pontagelaw09.TxBytes'. -/
def txBytesUptoCard : Claim7 := { stood := { row := txBytesUptoRow, standIns := [], harness := (true, "7a0f1606076cf021726c127c06cdff367e380548202f347a8310d864b7cb85c4"), looks := false }, kinds := [], alts := [], laidByText := true, laidKinds := [.data], laidTests := true, laidLooks := .later }
def TxBytesUptoCardSaid : Prop := Claim7.holds Tryd.pinned (.plain (OpenSpec.upto txBytesSpec)) txBytesUptoCard
end Rows
end Go.Proofs.YtaobgaoldfeehaaDoor
