/-
  DERIVED. GIVEN WITH THE SEED: THE CARDS: each row of YtjbnogjkgmkagaaGreatDoorRows.lean that lists a variable, with what it lists TIED to the program's text (the seventh form; the later family's looks); each row that meets fmt, with fmt's text TOLD by the authors' own Lean function (tested against real Go, not proved from fmt's source: count such statements apart). THE CARD IS WHAT COUNTS. Prove the row's statement (the work); the ties are given (YtjbnogjkgmkagaaGreatDoorTie.lean); close each card by the builder's one call (the guide's Derived/Test/ToyasCard.lean, 'card_holds'). Laid BY PROGRAM, IN A SANDBOX (cutbox-door.mjs). By AI agents, Wed Nov 11 2026. No macro, syntax, notation, axiom, sorry.
-/
import Derived.Test.YtjbnogjkgmkagaaGreatDoorRows
import GoSem.ClaimSeven
namespace Go.Proofs.YtjbnogjkgmkagaaGreatDoor
namespace Rows

/-- THE TIED CARD OF 'placketlaw12.AddrSames'. -/
def addrSamesCard : Claim7 := { stood := { row := addrSamesRow, standIns := [], harness := (true, "4ca069663c4e91d2830475563468f223b216ab76ada21b93401be058cf765dc6"), looks := true }, kinds := [], alts := [], laidByText := true, laidKinds := [.data, .data, .data, .data, .pinned], laidTests := true, laidLooks := .later }
def AddrSamesCardSaid : Prop := Claim7.holds Tryz.pinned (.plain (OpenSpec.ofChange addrSamesSpec)) addrSamesCard

/-- THE TIED CARD OF 'placketlaw13.CmdTables'. -/
def cmdTablesCard : Claim7 := { stood := { row := cmdTablesRow, standIns := [], harness := (true, "4ca069663c4e91d2830475563468f223b216ab76ada21b93401be058cf765dc6"), looks := true }, kinds := [], alts := [], laidByText := true, laidKinds := [.data, .data, .data, .data, .pinned], laidTests := true, laidLooks := .later }
def CmdTablesCardSaid : Prop := Claim7.holds Tryz.pinned (.plain (OpenSpec.ofChange cmdTablesSpec)) cmdTablesCard

/-- THE TIED CARD OF 'placketlaw13.CmdReplacements'. -/
def cmdReplacementsCard : Claim7 := { stood := { row := cmdReplacementsRow, standIns := [], harness := (true, "4ca069663c4e91d2830475563468f223b216ab76ada21b93401be058cf765dc6"), looks := true }, kinds := [], alts := [], laidByText := true, laidKinds := [.data, .data, .data, .data, .pinned], laidTests := true, laidLooks := .later }
def CmdReplacementsCardSaid : Prop := Claim7.holds Tryz.pinned (.plain (OpenSpec.ofChange cmdReplacementsSpec)) cmdReplacementsCard

/-- THE TIED CARD OF 'placketlaw13.CmdGuards'. -/
def cmdGuardsCard : Claim7 := { stood := { row := cmdGuardsRow, standIns := [], harness := (true, "4ca069663c4e91d2830475563468f223b216ab76ada21b93401be058cf765dc6"), looks := true }, kinds := [], alts := [], laidByText := true, laidKinds := [.data, .data, .data, .data, .pinned], laidTests := true, laidLooks := .later }
def CmdGuardsCardSaid : Prop := Claim7.holds Tryz.pinned (.plain (OpenSpec.ofChange cmdGuardsSpec)) cmdGuardsCard

/-- THE TIED CARD OF 'placketlaw14.ScriptSpaces'. -/
def scriptSpacesCard : Claim7 := { stood := { row := scriptSpacesRow, standIns := [], harness := (true, "4ca069663c4e91d2830475563468f223b216ab76ada21b93401be058cf765dc6"), looks := true }, kinds := [], alts := [], laidByText := true, laidKinds := [.data, .data, .data, .data, .pinned], laidTests := true, laidLooks := .later }
def ScriptSpacesCardSaid : Prop := Claim7.holds Tryz.pinned (.plain (OpenSpec.ofChange scriptSpacesSpec)) scriptSpacesCard

/-- THE TIED CARD OF 'placketlaw14.ScriptQuiet'. -/
def scriptQuietCard : Claim7 := { stood := { row := scriptQuietRow, standIns := [], harness := (true, "4ca069663c4e91d2830475563468f223b216ab76ada21b93401be058cf765dc6"), looks := true }, kinds := [], alts := [], laidByText := true, laidKinds := [.data, .data, .data, .data, .pinned], laidTests := true, laidLooks := .later }
def ScriptQuietCardSaid : Prop := Claim7.holds Tryz.pinned (.plain (OpenSpec.ofChange scriptQuietSpec)) scriptQuietCard

/-- THE TIED CARD OF 'placketlaw14.ScriptTwo'. -/
def scriptTwoCard : Claim7 := { stood := { row := scriptTwoRow, standIns := [], harness := (true, "4ca069663c4e91d2830475563468f223b216ab76ada21b93401be058cf765dc6"), looks := true }, kinds := [], alts := [], laidByText := true, laidKinds := [.data, .data, .data, .data, .pinned], laidTests := true, laidLooks := .later }
def ScriptTwoCardSaid : Prop := Claim7.holds Tryz.pinned (.plain (OpenSpec.ofChange scriptTwoSpec)) scriptTwoCard

/-- THE SECOND FORM's CARD OF 'placketlaw12.AddrSames'. -/
def addrSamesUptoCard : Claim7 := { stood := { row := addrSamesUptoRow, standIns := [], harness := (true, "4ca069663c4e91d2830475563468f223b216ab76ada21b93401be058cf765dc6"), looks := true }, kinds := [], alts := [], laidByText := true, laidKinds := [.data, .data, .data, .data, .pinned], laidTests := true, laidLooks := .later }
def AddrSamesUptoCardSaid : Prop := Claim7.holds Tryz.pinned (.plain (OpenSpec.upto addrSamesSpec)) addrSamesUptoCard

/-- THE SECOND FORM's CARD OF 'placketlaw13.CmdTables'. -/
def cmdTablesUptoCard : Claim7 := { stood := { row := cmdTablesUptoRow, standIns := [], harness := (true, "4ca069663c4e91d2830475563468f223b216ab76ada21b93401be058cf765dc6"), looks := true }, kinds := [], alts := [], laidByText := true, laidKinds := [.data, .data, .data, .data, .pinned], laidTests := true, laidLooks := .later }
def CmdTablesUptoCardSaid : Prop := Claim7.holds Tryz.pinned (.plain (OpenSpec.upto cmdTablesSpec)) cmdTablesUptoCard

/-- THE SECOND FORM's CARD OF 'placketlaw13.CmdReplacements'. -/
def cmdReplacementsUptoCard : Claim7 := { stood := { row := cmdReplacementsUptoRow, standIns := [], harness := (true, "4ca069663c4e91d2830475563468f223b216ab76ada21b93401be058cf765dc6"), looks := true }, kinds := [], alts := [], laidByText := true, laidKinds := [.data, .data, .data, .data, .pinned], laidTests := true, laidLooks := .later }
def CmdReplacementsUptoCardSaid : Prop := Claim7.holds Tryz.pinned (.plain (OpenSpec.upto cmdReplacementsSpec)) cmdReplacementsUptoCard

/-- THE SECOND FORM's CARD OF 'placketlaw13.CmdGuards'. -/
def cmdGuardsUptoCard : Claim7 := { stood := { row := cmdGuardsUptoRow, standIns := [], harness := (true, "4ca069663c4e91d2830475563468f223b216ab76ada21b93401be058cf765dc6"), looks := true }, kinds := [], alts := [], laidByText := true, laidKinds := [.data, .data, .data, .data, .pinned], laidTests := true, laidLooks := .later }
def CmdGuardsUptoCardSaid : Prop := Claim7.holds Tryz.pinned (.plain (OpenSpec.upto cmdGuardsSpec)) cmdGuardsUptoCard

/-- THE SECOND FORM's CARD OF 'placketlaw14.ScriptSpaces'. -/
def scriptSpacesUptoCard : Claim7 := { stood := { row := scriptSpacesUptoRow, standIns := [], harness := (true, "4ca069663c4e91d2830475563468f223b216ab76ada21b93401be058cf765dc6"), looks := true }, kinds := [], alts := [], laidByText := true, laidKinds := [.data, .data, .data, .data, .pinned], laidTests := true, laidLooks := .later }
def ScriptSpacesUptoCardSaid : Prop := Claim7.holds Tryz.pinned (.plain (OpenSpec.upto scriptSpacesSpec)) scriptSpacesUptoCard

/-- THE SECOND FORM's CARD OF 'placketlaw14.ScriptQuiet'. -/
def scriptQuietUptoCard : Claim7 := { stood := { row := scriptQuietUptoRow, standIns := [], harness := (true, "4ca069663c4e91d2830475563468f223b216ab76ada21b93401be058cf765dc6"), looks := true }, kinds := [], alts := [], laidByText := true, laidKinds := [.data, .data, .data, .data, .pinned], laidTests := true, laidLooks := .later }
def ScriptQuietUptoCardSaid : Prop := Claim7.holds Tryz.pinned (.plain (OpenSpec.upto scriptQuietSpec)) scriptQuietUptoCard

/-- THE SECOND FORM's CARD OF 'placketlaw14.ScriptTwo'. -/
def scriptTwoUptoCard : Claim7 := { stood := { row := scriptTwoUptoRow, standIns := [], harness := (true, "4ca069663c4e91d2830475563468f223b216ab76ada21b93401be058cf765dc6"), looks := true }, kinds := [], alts := [], laidByText := true, laidKinds := [.data, .data, .data, .data, .pinned], laidTests := true, laidLooks := .later }
def ScriptTwoUptoCardSaid : Prop := Claim7.holds Tryz.pinned (.plain (OpenSpec.upto scriptTwoSpec)) scriptTwoUptoCard
end Rows
end Go.Proofs.YtjbnogjkgmkagaaGreatDoor
