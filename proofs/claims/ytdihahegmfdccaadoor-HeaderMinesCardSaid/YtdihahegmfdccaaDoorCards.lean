/-
  DERIVED. GIVEN WITH THE SEED: THE CARDS: each row of YtdihahegmfdccaaDoorRows.lean that lists a variable, with what it lists TIED to the program's text (the seventh form; the later family's looks); each row that meets fmt, with fmt's text TOLD by the authors' own Lean function (tested against real Go, not proved from fmt's source: count such statements apart). THE CARD IS WHAT COUNTS. Prove the row's statement (the work); the ties are given (YtdihahegmfdccaaDoorTie.lean); close each card by the builder's one call (the guide's Derived/Test/ToyasCard.lean, 'card_holds'). Laid BY PROGRAM, IN A SANDBOX (cutbox-door.mjs). By AI agents, Wed Nov 11 2026. No macro, syntax, notation, axiom, sorry.
-/
import Derived.Test.YtdihahegmfdccaaDoorRows
import GoSem.ClaimSeven
namespace Go.Proofs.YtdihahegmfdccaaDoor
namespace Rows

/-- THE TIED CARD OF 'pontagelaw07.HeaderApart'. -/
def headerApartCard : Claim7 := { stood := { row := headerApartRow, standIns := [], harness := (true, "2dd49dbaf10427f0c2b5849db9ea5d1c63b4479eb485fc88836ce86e8955d731"), looks := false }, kinds := [], alts := [], laidByText := true, laidKinds := [.data], laidTests := true, laidLooks := .later }
def HeaderApartCardSaid : Prop := Claim7.holds Tryd.pinned (.plain (OpenSpec.ofChange headerApartSpec)) headerApartCard

/-- THE TIED CARD OF 'pontagelaw07.HeaderBytes'. -/
def headerBytesCard : Claim7 := { stood := { row := headerBytesRow, standIns := [], harness := (true, "2dd49dbaf10427f0c2b5849db9ea5d1c63b4479eb485fc88836ce86e8955d731"), looks := false }, kinds := [], alts := [], laidByText := true, laidKinds := [.data], laidTests := true, laidLooks := .later }
def HeaderBytesCardSaid : Prop := Claim7.holds Tryd.pinned (.plain (OpenSpec.ofChange headerBytesSpec)) headerBytesCard

/-- THE TIED CARD OF 'pontagelaw07.HeaderChecks'. -/
def headerChecksCard : Claim7 := { stood := { row := headerChecksRow, standIns := [], harness := (true, "2dd49dbaf10427f0c2b5849db9ea5d1c63b4479eb485fc88836ce86e8955d731"), looks := false }, kinds := [], alts := [], laidByText := true, laidKinds := [.data], laidTests := true, laidLooks := .later }
def HeaderChecksCardSaid : Prop := Claim7.holds Tryd.pinned (.plain (OpenSpec.ofChange headerChecksSpec)) headerChecksCard

/-- THE TIED CARD OF 'pontagelaw07.HeaderMines'. -/
def headerMinesCard : Claim7 := { stood := { row := headerMinesRow, standIns := [], harness := (true, "2dd49dbaf10427f0c2b5849db9ea5d1c63b4479eb485fc88836ce86e8955d731"), looks := false }, kinds := [], alts := [], laidByText := true, laidKinds := [.data], laidTests := true, laidLooks := .later }
def HeaderMinesCardSaid : Prop := Claim7.holds Tryd.pinned (.plain (OpenSpec.ofChange headerMinesSpec)) headerMinesCard

/-- THE SECOND FORM's CARD OF 'pontagelaw07.HeaderApart'. -/
def headerApartUptoCard : Claim7 := { stood := { row := headerApartUptoRow, standIns := [], harness := (true, "2dd49dbaf10427f0c2b5849db9ea5d1c63b4479eb485fc88836ce86e8955d731"), looks := false }, kinds := [], alts := [], laidByText := true, laidKinds := [.data], laidTests := true, laidLooks := .later }
def HeaderApartUptoCardSaid : Prop := Claim7.holds Tryd.pinned (.plain (OpenSpec.upto headerApartSpec)) headerApartUptoCard

/-- THE SECOND FORM's CARD OF 'pontagelaw07.HeaderBytes'. -/
def headerBytesUptoCard : Claim7 := { stood := { row := headerBytesUptoRow, standIns := [], harness := (true, "2dd49dbaf10427f0c2b5849db9ea5d1c63b4479eb485fc88836ce86e8955d731"), looks := false }, kinds := [], alts := [], laidByText := true, laidKinds := [.data], laidTests := true, laidLooks := .later }
def HeaderBytesUptoCardSaid : Prop := Claim7.holds Tryd.pinned (.plain (OpenSpec.upto headerBytesSpec)) headerBytesUptoCard

/-- THE SECOND FORM's CARD OF 'pontagelaw07.HeaderChecks'. -/
def headerChecksUptoCard : Claim7 := { stood := { row := headerChecksUptoRow, standIns := [], harness := (true, "2dd49dbaf10427f0c2b5849db9ea5d1c63b4479eb485fc88836ce86e8955d731"), looks := false }, kinds := [], alts := [], laidByText := true, laidKinds := [.data], laidTests := true, laidLooks := .later }
def HeaderChecksUptoCardSaid : Prop := Claim7.holds Tryd.pinned (.plain (OpenSpec.upto headerChecksSpec)) headerChecksUptoCard

/-- THE SECOND FORM's CARD OF 'pontagelaw07.HeaderMines'. -/
def headerMinesUptoCard : Claim7 := { stood := { row := headerMinesUptoRow, standIns := [], harness := (true, "2dd49dbaf10427f0c2b5849db9ea5d1c63b4479eb485fc88836ce86e8955d731"), looks := false }, kinds := [], alts := [], laidByText := true, laidKinds := [.data], laidTests := true, laidLooks := .later }
def HeaderMinesUptoCardSaid : Prop := Claim7.holds Tryd.pinned (.plain (OpenSpec.upto headerMinesSpec)) headerMinesUptoCard
end Rows
end Go.Proofs.YtdihahegmfdccaaDoor
