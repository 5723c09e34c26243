/-
  DERIVED. GIVEN WITH THE SEED: THE CARDS: each row of YtbhmpdbcjchdfaaDoorRows.lean that lists a variable, with what it lists TIED to the program's text (the seventh form; the later family's looks); each row that meets fmt, with fmt's text TOLD by the authors' own Lean function (tested against real Go, not proved from fmt's source: count such statements apart). THE CARD IS WHAT COUNTS. Prove the row's statement (the work); the ties are given (YtbhmpdbcjchdfaaDoorTie.lean); close each card by the builder's one call (the guide's Derived/Test/ToyasCard.lean, 'card_holds'). Laid BY PROGRAM, IN A SANDBOX (cutbox-door.mjs). By AI agents, Wed Nov 11 2026. No macro, syntax, notation, axiom, sorry.
-/
import Derived.Test.YtbhmpdbcjchdfaaDoorRows
import GoSem.ClaimSeven
namespace Go.Proofs.YtbhmpdbcjchdfaaDoor
namespace Rows

/-- THE TIED CARD OF 'placketlaw11.PieceTakes'. -/
def pieceTakesCard : Claim7 := { stood := { row := pieceTakesRow, standIns := [], harness := (true, "af2722d4c588a5628c5df253ff4824ccdadfffc38d904860e69579ff2078f329"), looks := false }, kinds := [], alts := [], laidByText := true, laidKinds := [.data, .data, .pinned], laidTests := true, laidLooks := .later }
def PieceTakesCardSaid : Prop := Claim7.holds Tryd.pinned (.plain (OpenSpec.ofChange pieceTakesSpec)) pieceTakesCard

/-- THE TIED CARD OF 'placketlaw11.PieceBetween'. -/
def pieceBetweenCard : Claim7 := { stood := { row := pieceBetweenRow, standIns := [], harness := (true, "af2722d4c588a5628c5df253ff4824ccdadfffc38d904860e69579ff2078f329"), looks := false }, kinds := [], alts := [], laidByText := true, laidKinds := [.data, .data, .pinned], laidTests := true, laidLooks := .later }
def PieceBetweenCardSaid : Prop := Claim7.holds Tryd.pinned (.plain (OpenSpec.ofChange pieceBetweenSpec)) pieceBetweenCard

/-- THE TIED CARD OF 'placketlaw11.PieceQuoted'. -/
def pieceQuotedCard : Claim7 := { stood := { row := pieceQuotedRow, standIns := [], harness := (true, "af2722d4c588a5628c5df253ff4824ccdadfffc38d904860e69579ff2078f329"), looks := false }, kinds := [], alts := [], laidByText := true, laidKinds := [.data, .data, .pinned], laidTests := true, laidLooks := .later }
def PieceQuotedCardSaid : Prop := Claim7.holds Tryd.pinned (.plain (OpenSpec.ofChange pieceQuotedSpec)) pieceQuotedCard

/-- THE TIED CARD OF 'placketlaw11.PieceTexts'. -/
def pieceTextsCard : Claim7 := { stood := { row := pieceTextsRow, standIns := [], harness := (true, "af2722d4c588a5628c5df253ff4824ccdadfffc38d904860e69579ff2078f329"), looks := false }, kinds := [], alts := [], laidByText := true, laidKinds := [.data, .data, .pinned], laidTests := true, laidLooks := .later }
def PieceTextsCardSaid : Prop := Claim7.holds Tryd.pinned (.plain (OpenSpec.ofChange pieceTextsSpec)) pieceTextsCard

/-- THE TIED CARD OF 'placketlaw11.PieceNumbers'. -/
def pieceNumbersCard : Claim7 := { stood := { row := pieceNumbersRow, standIns := [], harness := (true, "af2722d4c588a5628c5df253ff4824ccdadfffc38d904860e69579ff2078f329"), looks := false }, kinds := [], alts := [], laidByText := true, laidKinds := [.data, .data, .pinned], laidTests := true, laidLooks := .later }
def PieceNumbersCardSaid : Prop := Claim7.holds Tryd.pinned (.plain (OpenSpec.ofChange pieceNumbersSpec)) pieceNumbersCard

/-- THE SECOND FORM's CARD OF 'placketlaw11.PieceTakes'. -/
def pieceTakesUptoCard : Claim7 := { stood := { row := pieceTakesUptoRow, standIns := [], harness := (true, "af2722d4c588a5628c5df253ff4824ccdadfffc38d904860e69579ff2078f329"), looks := false }, kinds := [], alts := [], laidByText := true, laidKinds := [.data, .data, .pinned], laidTests := true, laidLooks := .later }
def PieceTakesUptoCardSaid : Prop := Claim7.holds Tryd.pinned (.plain (OpenSpec.upto pieceTakesSpec)) pieceTakesUptoCard

/-- THE SECOND FORM's CARD OF 'placketlaw11.PieceBetween'. -/
def pieceBetweenUptoCard : Claim7 := { stood := { row := pieceBetweenUptoRow, standIns := [], harness := (true, "af2722d4c588a5628c5df253ff4824ccdadfffc38d904860e69579ff2078f329"), looks := false }, kinds := [], alts := [], laidByText := true, laidKinds := [.data, .data, .pinned], laidTests := true, laidLooks := .later }
def PieceBetweenUptoCardSaid : Prop := Claim7.holds Tryd.pinned (.plain (OpenSpec.upto pieceBetweenSpec)) pieceBetweenUptoCard

/-- THE SECOND FORM's CARD OF 'placketlaw11.PieceQuoted'. -/
def pieceQuotedUptoCard : Claim7 := { stood := { row := pieceQuotedUptoRow, standIns := [], harness := (true, "af2722d4c588a5628c5df253ff4824ccdadfffc38d904860e69579ff2078f329"), looks := false }, kinds := [], alts := [], laidByText := true, laidKinds := [.data, .data, .pinned], laidTests := true, laidLooks := .later }
def PieceQuotedUptoCardSaid : Prop := Claim7.holds Tryd.pinned (.plain (OpenSpec.upto pieceQuotedSpec)) pieceQuotedUptoCard

/-- THE SECOND FORM's CARD OF 'placketlaw11.PieceTexts'. -/
def pieceTextsUptoCard : Claim7 := { stood := { row := pieceTextsUptoRow, standIns := [], harness := (true, "af2722d4c588a5628c5df253ff4824ccdadfffc38d904860e69579ff2078f329"), looks := false }, kinds := [], alts := [], laidByText := true, laidKinds := [.data, .data, .pinned], laidTests := true, laidLooks := .later }
def PieceTextsUptoCardSaid : Prop := Claim7.holds Tryd.pinned (.plain (OpenSpec.upto pieceTextsSpec)) pieceTextsUptoCard

/-- THE SECOND FORM's CARD OF 'placketlaw11.PieceNumbers'. -/
def pieceNumbersUptoCard : Claim7 := { stood := { row := pieceNumbersUptoRow, standIns := [], harness := (true, "af2722d4c588a5628c5df253ff4824ccdadfffc38d904860e69579ff2078f329"), looks := false }, kinds := [], alts := [], laidByText := true, laidKinds := [.data, .data, .pinned], laidTests := true, laidLooks := .later }
def PieceNumbersUptoCardSaid : Prop := Claim7.holds Tryd.pinned (.plain (OpenSpec.upto pieceNumbersSpec)) pieceNumbersUptoCard
end Rows
end Go.Proofs.YtbhmpdbcjchdfaaDoor
