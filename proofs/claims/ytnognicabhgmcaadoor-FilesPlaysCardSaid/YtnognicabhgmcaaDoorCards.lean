/-
  DERIVED. GIVEN WITH THE SEED: THE CARDS: each row of YtnognicabhgmcaaDoorRows.lean that lists a variable, with what it lists TIED to the program's text (the seventh form; the later family's looks); each row that meets fmt, with fmt's text TOLD by the authors' own Lean function (tested against real Go, not proved from fmt's source: count such statements apart). THE CARD IS WHAT COUNTS. Prove the row's statement (the work); the ties are given (YtnognicabhgmcaaDoorTie.lean); close each card by the builder's one call (the guide's Derived/Test/ToyasCard.lean, 'card_holds'). Laid BY PROGRAM, IN A SANDBOX (cutbox-door.mjs). By AI agents, Wed Nov 11 2026. No macro, syntax, notation, axiom, sorry.
-/
import Derived.Test.YtnognicabhgmcaaDoorRows
import GoSem.ClaimSeven
namespace Go.Proofs.YtnognicabhgmcaaDoor
namespace Rows

/-- THE TIED CARD OF 'placketlaw17.FilesPlays'. -/
def filesPlaysCard : Claim7 := { stood := { row := filesPlaysRow, standIns := [], harness := (true, "9cc1fbc908ee279a9854ff4580fcae5f5502eebbf6b1f97734997cb94e9150ad"), looks := false }, kinds := [], alts := [], laidByText := true, laidKinds := [.data, .pinned], laidTests := true, laidLooks := .later }
def FilesPlaysCardSaid : Prop := Claim7.holds Tryd.pinned (.plain (OpenSpec.ofChange filesPlaysSpec)) filesPlaysCard

/-- THE TIED CARD OF 'placketlaw17.FilesCuts'. -/
def filesCutsCard : Claim7 := { stood := { row := filesCutsRow, standIns := [], harness := (true, "9cc1fbc908ee279a9854ff4580fcae5f5502eebbf6b1f97734997cb94e9150ad"), looks := false }, kinds := [], alts := [], laidByText := true, laidKinds := [.data, .pinned], laidTests := true, laidLooks := .later }
def FilesCutsCardSaid : Prop := Claim7.holds Tryd.pinned (.plain (OpenSpec.ofChange filesCutsSpec)) filesCutsCard

/-- THE TIED CARD OF 'placketlaw17.FilesApart'. -/
def filesApartCard : Claim7 := { stood := { row := filesApartRow, standIns := [], harness := (true, "9cc1fbc908ee279a9854ff4580fcae5f5502eebbf6b1f97734997cb94e9150ad"), looks := false }, kinds := [], alts := [], laidByText := true, laidKinds := [.data, .pinned], laidTests := true, laidLooks := .later }
def FilesApartCardSaid : Prop := Claim7.holds Tryd.pinned (.plain (OpenSpec.ofChange filesApartSpec)) filesApartCard

/-- THE SECOND FORM's CARD OF 'placketlaw17.FilesPlays'. -/
def filesPlaysUptoCard : Claim7 := { stood := { row := filesPlaysUptoRow, standIns := [], harness := (true, "9cc1fbc908ee279a9854ff4580fcae5f5502eebbf6b1f97734997cb94e9150ad"), looks := false }, kinds := [], alts := [], laidByText := true, laidKinds := [.data, .pinned], laidTests := true, laidLooks := .later }
def FilesPlaysUptoCardSaid : Prop := Claim7.holds Tryd.pinned (.plain (OpenSpec.upto filesPlaysSpec)) filesPlaysUptoCard

/-- THE SECOND FORM's CARD OF 'placketlaw17.FilesCuts'. -/
def filesCutsUptoCard : Claim7 := { stood := { row := filesCutsUptoRow, standIns := [], harness := (true, "9cc1fbc908ee279a9854ff4580fcae5f5502eebbf6b1f97734997cb94e9150ad"), looks := false }, kinds := [], alts := [], laidByText := true, laidKinds := [.data, .pinned], laidTests := true, laidLooks := .later }
def FilesCutsUptoCardSaid : Prop := Claim7.holds Tryd.pinned (.plain (OpenSpec.upto filesCutsSpec)) filesCutsUptoCard

/-- THE SECOND FORM's CARD OF 'placketlaw17.FilesApart'. -/
def filesApartUptoCard : Claim7 := { stood := { row := filesApartUptoRow, standIns := [], harness := (true, "9cc1fbc908ee279a9854ff4580fcae5f5502eebbf6b1f97734997cb94e9150ad"), looks := false }, kinds := [], alts := [], laidByText := true, laidKinds := [.data, .pinned], laidTests := true, laidLooks := .later }
def FilesApartUptoCardSaid : Prop := Claim7.holds Tryd.pinned (.plain (OpenSpec.upto filesApartSpec)) filesApartUptoCard
end Rows
end Go.Proofs.YtnognicabhgmcaaDoor
