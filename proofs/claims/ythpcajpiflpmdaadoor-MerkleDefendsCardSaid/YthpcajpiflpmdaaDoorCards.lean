/-
  DERIVED. GIVEN WITH THE SEED: THE CARDS: each row of YthpcajpiflpmdaaDoorRows.lean that lists a variable, with what it lists TIED to the program's text (the seventh form; the later family's looks); each row that meets fmt, with fmt's text TOLD by the authors' own Lean function (tested against real Go, not proved from fmt's source: count such statements apart). THE CARD IS WHAT COUNTS. Prove the row's statement (the work); the ties are given (YthpcajpiflpmdaaDoorTie.lean); close each card by the builder's one call (the guide's Derived/Test/ToyasCard.lean, 'card_holds'). Laid BY PROGRAM, IN A SANDBOX (cutbox-door.mjs). By AI agents, Wed Nov 11 2026. No macro, syntax, notation, axiom, sorry.
-/
import Derived.Test.YthpcajpiflpmdaaDoorRows
import GoSem.ClaimSeven
namespace Go.Proofs.YthpcajpiflpmdaaDoor
namespace Rows

/-- THE TIED CARD OF 'pontagelaw10.MerkleDefends'. -/
def merkleDefendsCard : Claim7 := { stood := { row := merkleDefendsRow, standIns := [], harness := (true, "fdbcfee148dd9d73eab9c3e59960710c0e0b5b01fa3722032be95273647036d6"), looks := false }, kinds := [], alts := [], laidByText := true, laidKinds := [.data], laidTests := true, laidLooks := .later }
def MerkleDefendsCardSaid : Prop := Claim7.holds Tryd.pinned (.plain (OpenSpec.ofChange merkleDefendsSpec)) merkleDefendsCard

/-- THE TIED CARD OF 'pontagelaw10.MerkleRoots'. -/
def merkleRootsCard : Claim7 := { stood := { row := merkleRootsRow, standIns := [], harness := (true, "fdbcfee148dd9d73eab9c3e59960710c0e0b5b01fa3722032be95273647036d6"), looks := false }, kinds := [], alts := [], laidByText := true, laidKinds := [.data], laidTests := true, laidLooks := .later }
def MerkleRootsCardSaid : Prop := Claim7.holds Tryd.pinned (.plain (OpenSpec.ofChange merkleRootsSpec)) merkleRootsCard

/-- THE TIED CARD OF 'pontagelaw10.MerkleClimbs'. -/
def merkleClimbsCard : Claim7 := { stood := { row := merkleClimbsRow, standIns := [], harness := (true, "fdbcfee148dd9d73eab9c3e59960710c0e0b5b01fa3722032be95273647036d6"), looks := false }, kinds := [], alts := [], laidByText := true, laidKinds := [.data], laidTests := true, laidLooks := .later }
def MerkleClimbsCardSaid : Prop := Claim7.holds Tryd.pinned (.plain (OpenSpec.ofChange merkleClimbsSpec)) merkleClimbsCard

/-- THE TIED CARD OF 'pontagelaw10.MerkleProves'. -/
def merkleProvesCard : Claim7 := { stood := { row := merkleProvesRow, standIns := [], harness := (true, "fdbcfee148dd9d73eab9c3e59960710c0e0b5b01fa3722032be95273647036d6"), looks := false }, kinds := [], alts := [], laidByText := true, laidKinds := [.data], laidTests := true, laidLooks := .later }
def MerkleProvesCardSaid : Prop := Claim7.holds Tryd.pinned (.plain (OpenSpec.ofChange merkleProvesSpec)) merkleProvesCard

/-- THE SECOND FORM's CARD OF 'pontagelaw10.MerkleDefends'. -/
def merkleDefendsUptoCard : Claim7 := { stood := { row := merkleDefendsUptoRow, standIns := [], harness := (true, "fdbcfee148dd9d73eab9c3e59960710c0e0b5b01fa3722032be95273647036d6"), looks := false }, kinds := [], alts := [], laidByText := true, laidKinds := [.data], laidTests := true, laidLooks := .later }
def MerkleDefendsUptoCardSaid : Prop := Claim7.holds Tryd.pinned (.plain (OpenSpec.upto merkleDefendsSpec)) merkleDefendsUptoCard

/-- THE SECOND FORM's CARD OF 'pontagelaw10.MerkleRoots'. -/
def merkleRootsUptoCard : Claim7 := { stood := { row := merkleRootsUptoRow, standIns := [], harness := (true, "fdbcfee148dd9d73eab9c3e59960710c0e0b5b01fa3722032be95273647036d6"), looks := false }, kinds := [], alts := [], laidByText := true, laidKinds := [.data], laidTests := true, laidLooks := .later }
def MerkleRootsUptoCardSaid : Prop := Claim7.holds Tryd.pinned (.plain (OpenSpec.upto merkleRootsSpec)) merkleRootsUptoCard

/-- THE SECOND FORM's CARD OF 'pontagelaw10.MerkleClimbs'. -/
def merkleClimbsUptoCard : Claim7 := { stood := { row := merkleClimbsUptoRow, standIns := [], harness := (true, "fdbcfee148dd9d73eab9c3e59960710c0e0b5b01fa3722032be95273647036d6"), looks := false }, kinds := [], alts := [], laidByText := true, laidKinds := [.data], laidTests := true, laidLooks := .later }
def MerkleClimbsUptoCardSaid : Prop := Claim7.holds Tryd.pinned (.plain (OpenSpec.upto merkleClimbsSpec)) merkleClimbsUptoCard

/-- THE SECOND FORM's CARD OF 'pontagelaw10.MerkleProves'. -/
def merkleProvesUptoCard : Claim7 := { stood := { row := merkleProvesUptoRow, standIns := [], harness := (true, "fdbcfee148dd9d73eab9c3e59960710c0e0b5b01fa3722032be95273647036d6"), looks := false }, kinds := [], alts := [], laidByText := true, laidKinds := [.data], laidTests := true, laidLooks := .later }
def MerkleProvesUptoCardSaid : Prop := Claim7.holds Tryd.pinned (.plain (OpenSpec.upto merkleProvesSpec)) merkleProvesUptoCard
end Rows
end Go.Proofs.YthpcajpiflpmdaaDoor
