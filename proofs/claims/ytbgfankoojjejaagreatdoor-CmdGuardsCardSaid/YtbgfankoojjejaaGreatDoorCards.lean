/-
  DERIVED. GIVEN WITH THE SEED: THE CARDS: each row of YtbgfankoojjejaaGreatDoorRows.lean that lists a variable, with what it lists TIED to the program's text (the seventh form; the later family's looks); each row that meets fmt, with fmt's text TOLD by the authors' own Lean function (tested against real Go, not proved from fmt's source: count such statements apart). THE CARD IS WHAT COUNTS. Prove the row's statement (the work); the ties are given (YtbgfankoojjejaaGreatDoorTie.lean); close each card by the builder's one call (the guide's Derived/Test/ToyasCard.lean, 'card_holds'). Laid BY PROGRAM, IN A SANDBOX (cutbox-door.mjs). By AI agents, Wed Nov 11 2026. No macro, syntax, notation, axiom, sorry.
-/
import Derived.Test.YtbgfankoojjejaaGreatDoorRows
import GoSem.ClaimSeven
namespace Go.Proofs.YtbgfankoojjejaaGreatDoor
namespace Rows

/-- THE TIED CARD OF 'placketlaw13.CmdTables'. -/
def cmdTablesCard : Claim7 := { stood := { row := cmdTablesRow, standIns := [], harness := (true, "d2cd2e371314dbfc13d6d5c46a860fe64b1289b11531d56d58a2ce402e13ffac"), looks := true }, kinds := [], alts := [], laidByText := true, laidKinds := [.data, .data, .data, .data, .pinned], laidTests := true, laidLooks := .later }
def CmdTablesCardSaid : Prop := Claim7.holds Tryz.pinned (.plain (OpenSpec.ofChange cmdTablesSpec)) cmdTablesCard

/-- THE TIED CARD OF 'placketlaw13.CmdReplacements'. -/
def cmdReplacementsCard : Claim7 := { stood := { row := cmdReplacementsRow, standIns := [], harness := (true, "d2cd2e371314dbfc13d6d5c46a860fe64b1289b11531d56d58a2ce402e13ffac"), looks := true }, kinds := [], alts := [], laidByText := true, laidKinds := [.data, .data, .data, .data, .pinned], laidTests := true, laidLooks := .later }
def CmdReplacementsCardSaid : Prop := Claim7.holds Tryz.pinned (.plain (OpenSpec.ofChange cmdReplacementsSpec)) cmdReplacementsCard

/-- THE TIED CARD OF 'placketlaw13.CmdGuards'. -/
def cmdGuardsCard : Claim7 := { stood := { row := cmdGuardsRow, standIns := [], harness := (true, "d2cd2e371314dbfc13d6d5c46a860fe64b1289b11531d56d58a2ce402e13ffac"), looks := true }, kinds := [], alts := [], laidByText := true, laidKinds := [.data, .data, .data, .data, .pinned], laidTests := true, laidLooks := .later }
def CmdGuardsCardSaid : Prop := Claim7.holds Tryz.pinned (.plain (OpenSpec.ofChange cmdGuardsSpec)) cmdGuardsCard

/-- THE SECOND FORM's CARD OF 'placketlaw13.CmdTables'. -/
def cmdTablesUptoCard : Claim7 := { stood := { row := cmdTablesUptoRow, standIns := [], harness := (true, "d2cd2e371314dbfc13d6d5c46a860fe64b1289b11531d56d58a2ce402e13ffac"), looks := true }, kinds := [], alts := [], laidByText := true, laidKinds := [.data, .data, .data, .data, .pinned], laidTests := true, laidLooks := .later }
def CmdTablesUptoCardSaid : Prop := Claim7.holds Tryz.pinned (.plain (OpenSpec.upto cmdTablesSpec)) cmdTablesUptoCard

/-- THE SECOND FORM's CARD OF 'placketlaw13.CmdReplacements'. -/
def cmdReplacementsUptoCard : Claim7 := { stood := { row := cmdReplacementsUptoRow, standIns := [], harness := (true, "d2cd2e371314dbfc13d6d5c46a860fe64b1289b11531d56d58a2ce402e13ffac"), looks := true }, kinds := [], alts := [], laidByText := true, laidKinds := [.data, .data, .data, .data, .pinned], laidTests := true, laidLooks := .later }
def CmdReplacementsUptoCardSaid : Prop := Claim7.holds Tryz.pinned (.plain (OpenSpec.upto cmdReplacementsSpec)) cmdReplacementsUptoCard

/-- THE SECOND FORM's CARD OF 'placketlaw13.CmdGuards'. -/
def cmdGuardsUptoCard : Claim7 := { stood := { row := cmdGuardsUptoRow, standIns := [], harness := (true, "d2cd2e371314dbfc13d6d5c46a860fe64b1289b11531d56d58a2ce402e13ffac"), looks := true }, kinds := [], alts := [], laidByText := true, laidKinds := [.data, .data, .data, .data, .pinned], laidTests := true, laidLooks := .later }
def CmdGuardsUptoCardSaid : Prop := Claim7.holds Tryz.pinned (.plain (OpenSpec.upto cmdGuardsSpec)) cmdGuardsUptoCard
end Rows
end Go.Proofs.YtbgfankoojjejaaGreatDoor
