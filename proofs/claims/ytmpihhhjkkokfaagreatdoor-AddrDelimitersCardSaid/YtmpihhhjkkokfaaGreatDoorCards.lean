/-
  DERIVED. GIVEN WITH THE SEED: THE CARDS: each row of YtmpihhhjkkokfaaGreatDoorRows.lean that lists a variable, with what it lists TIED to the program's text (the seventh form; the later family's looks); each row that meets fmt, with fmt's text TOLD by the authors' own Lean function (tested against real Go, not proved from fmt's source: count such statements apart). THE CARD IS WHAT COUNTS. Prove the row's statement (the work); the ties are given (YtmpihhhjkkokfaaGreatDoorTie.lean); close each card by the builder's one call (the guide's Derived/Test/ToyasCard.lean, 'card_holds'). Laid BY PROGRAM, IN A SANDBOX (cutbox-door.mjs). By AI agents, Wed Nov 11 2026. No macro, syntax, notation, axiom, sorry.
-/
import Derived.Test.YtmpihhhjkkokfaaGreatDoorRows
import GoSem.ClaimSeven
namespace Go.Proofs.YtmpihhhjkkokfaaGreatDoor
namespace Rows

/-- THE TIED CARD OF 'placketlaw12.AddrParses'. -/
def addrParsesCard : Claim7 := { stood := { row := addrParsesRow, standIns := [], harness := (true, "6b7aa593429206030a743d7cb87a59cac16b4d728cf7b4ef3f11603c1ecb9cc6"), looks := true }, kinds := [], alts := [], laidByText := true, laidKinds := [.data, .data, .data, .data, .pinned], laidTests := true, laidLooks := .later }
def AddrParsesCardSaid : Prop := Claim7.holds Tryz.pinned (.plain (OpenSpec.ofChange addrParsesSpec)) addrParsesCard

/-- THE TIED CARD OF 'placketlaw12.AddrGuards'. -/
def addrGuardsCard : Claim7 := { stood := { row := addrGuardsRow, standIns := [], harness := (true, "6b7aa593429206030a743d7cb87a59cac16b4d728cf7b4ef3f11603c1ecb9cc6"), looks := true }, kinds := [], alts := [], laidByText := true, laidKinds := [.data, .data, .data, .data, .pinned], laidTests := true, laidLooks := .later }
def AddrGuardsCardSaid : Prop := Claim7.holds Tryz.pinned (.plain (OpenSpec.ofChange addrGuardsSpec)) addrGuardsCard

/-- THE TIED CARD OF 'placketlaw12.AddrSames'. -/
def addrSamesCard : Claim7 := { stood := { row := addrSamesRow, standIns := [], harness := (true, "6b7aa593429206030a743d7cb87a59cac16b4d728cf7b4ef3f11603c1ecb9cc6"), looks := true }, kinds := [], alts := [], laidByText := true, laidKinds := [.data, .data, .data, .data, .pinned], laidTests := true, laidLooks := .later }
def AddrSamesCardSaid : Prop := Claim7.holds Tryz.pinned (.plain (OpenSpec.ofChange addrSamesSpec)) addrSamesCard

/-- THE TIED CARD OF 'placketlaw12.AddrDelimiters'. -/
def addrDelimitersCard : Claim7 := { stood := { row := addrDelimitersRow, standIns := [], harness := (true, "6b7aa593429206030a743d7cb87a59cac16b4d728cf7b4ef3f11603c1ecb9cc6"), looks := true }, kinds := [], alts := [], laidByText := true, laidKinds := [.data, .data, .data, .data, .pinned], laidTests := true, laidLooks := .later }
def AddrDelimitersCardSaid : Prop := Claim7.holds Tryz.pinned (.plain (OpenSpec.ofChange addrDelimitersSpec)) addrDelimitersCard

/-- THE TIED CARD OF 'placketlaw12.AddrNots'. -/
def addrNotsCard : Claim7 := { stood := { row := addrNotsRow, standIns := [], harness := (true, "6b7aa593429206030a743d7cb87a59cac16b4d728cf7b4ef3f11603c1ecb9cc6"), looks := true }, kinds := [], alts := [], laidByText := true, laidKinds := [.data, .data, .data, .data, .pinned], laidTests := true, laidLooks := .later }
def AddrNotsCardSaid : Prop := Claim7.holds Tryz.pinned (.plain (OpenSpec.ofChange addrNotsSpec)) addrNotsCard

/-- THE SECOND FORM's CARD OF 'placketlaw12.AddrParses'. -/
def addrParsesUptoCard : Claim7 := { stood := { row := addrParsesUptoRow, standIns := [], harness := (true, "6b7aa593429206030a743d7cb87a59cac16b4d728cf7b4ef3f11603c1ecb9cc6"), looks := true }, kinds := [], alts := [], laidByText := true, laidKinds := [.data, .data, .data, .data, .pinned], laidTests := true, laidLooks := .later }
def AddrParsesUptoCardSaid : Prop := Claim7.holds Tryz.pinned (.plain (OpenSpec.upto addrParsesSpec)) addrParsesUptoCard

/-- THE SECOND FORM's CARD OF 'placketlaw12.AddrGuards'. -/
def addrGuardsUptoCard : Claim7 := { stood := { row := addrGuardsUptoRow, standIns := [], harness := (true, "6b7aa593429206030a743d7cb87a59cac16b4d728cf7b4ef3f11603c1ecb9cc6"), looks := true }, kinds := [], alts := [], laidByText := true, laidKinds := [.data, .data, .data, .data, .pinned], laidTests := true, laidLooks := .later }
def AddrGuardsUptoCardSaid : Prop := Claim7.holds Tryz.pinned (.plain (OpenSpec.upto addrGuardsSpec)) addrGuardsUptoCard

/-- THE SECOND FORM's CARD OF 'placketlaw12.AddrSames'. -/
def addrSamesUptoCard : Claim7 := { stood := { row := addrSamesUptoRow, standIns := [], harness := (true, "6b7aa593429206030a743d7cb87a59cac16b4d728cf7b4ef3f11603c1ecb9cc6"), looks := true }, kinds := [], alts := [], laidByText := true, laidKinds := [.data, .data, .data, .data, .pinned], laidTests := true, laidLooks := .later }
def AddrSamesUptoCardSaid : Prop := Claim7.holds Tryz.pinned (.plain (OpenSpec.upto addrSamesSpec)) addrSamesUptoCard

/-- THE SECOND FORM's CARD OF 'placketlaw12.AddrDelimiters'. -/
def addrDelimitersUptoCard : Claim7 := { stood := { row := addrDelimitersUptoRow, standIns := [], harness := (true, "6b7aa593429206030a743d7cb87a59cac16b4d728cf7b4ef3f11603c1ecb9cc6"), looks := true }, kinds := [], alts := [], laidByText := true, laidKinds := [.data, .data, .data, .data, .pinned], laidTests := true, laidLooks := .later }
def AddrDelimitersUptoCardSaid : Prop := Claim7.holds Tryz.pinned (.plain (OpenSpec.upto addrDelimitersSpec)) addrDelimitersUptoCard

/-- THE SECOND FORM's CARD OF 'placketlaw12.AddrNots'. -/
def addrNotsUptoCard : Claim7 := { stood := { row := addrNotsUptoRow, standIns := [], harness := (true, "6b7aa593429206030a743d7cb87a59cac16b4d728cf7b4ef3f11603c1ecb9cc6"), looks := true }, kinds := [], alts := [], laidByText := true, laidKinds := [.data, .data, .data, .data, .pinned], laidTests := true, laidLooks := .later }
def AddrNotsUptoCardSaid : Prop := Claim7.holds Tryz.pinned (.plain (OpenSpec.upto addrNotsSpec)) addrNotsUptoCard
end Rows
end Go.Proofs.YtmpihhhjkkokfaaGreatDoor
