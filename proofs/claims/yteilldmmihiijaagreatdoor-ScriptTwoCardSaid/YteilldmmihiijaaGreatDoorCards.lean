/-
  DERIVED. GIVEN WITH THE SEED: THE CARDS: each row of YteilldmmihiijaaGreatDoorRows.lean that lists a variable, with what it lists TIED to the program's text (the seventh form; the later family's looks); each row that meets fmt, with fmt's text TOLD by the authors' own Lean function (tested against real Go, not proved from fmt's source: count such statements apart). THE CARD IS WHAT COUNTS. Prove the row's statement (the work); the ties are given (YteilldmmihiijaaGreatDoorTie.lean); close each card by the builder's one call (the guide's Derived/Test/ToyasCard.lean, 'card_holds'). Laid BY PROGRAM, IN A SANDBOX (cutbox-door.mjs). By AI agents, Wed Nov 11 2026. No macro, syntax, notation, axiom, sorry.
-/
import Derived.Test.YteilldmmihiijaaGreatDoorRows
import GoSem.ClaimSeven
namespace Go.Proofs.YteilldmmihiijaaGreatDoor
namespace Rows

/-- THE TIED CARD OF 'placketlaw14.ScriptSpaces'. -/
def scriptSpacesCard : Claim7 := { stood := { row := scriptSpacesRow, standIns := [], harness := (true, "6206e07c864f80cf5bab66f188630ba1fc0f1e8b983c5362273b87d7aee30f80"), looks := true }, kinds := [], alts := [], laidByText := true, laidKinds := [.data, .data, .data, .data, .pinned], laidTests := true, laidLooks := .later }
def ScriptSpacesCardSaid : Prop := Claim7.holds Tryz.pinned (.plain (OpenSpec.ofChange scriptSpacesSpec)) scriptSpacesCard

/-- THE TIED CARD OF 'placketlaw14.ScriptQuiet'. -/
def scriptQuietCard : Claim7 := { stood := { row := scriptQuietRow, standIns := [], harness := (true, "6206e07c864f80cf5bab66f188630ba1fc0f1e8b983c5362273b87d7aee30f80"), looks := true }, kinds := [], alts := [], laidByText := true, laidKinds := [.data, .data, .data, .data, .pinned], laidTests := true, laidLooks := .later }
def ScriptQuietCardSaid : Prop := Claim7.holds Tryz.pinned (.plain (OpenSpec.ofChange scriptQuietSpec)) scriptQuietCard

/-- THE TIED CARD OF 'placketlaw14.ScriptTwo'. -/
def scriptTwoCard : Claim7 := { stood := { row := scriptTwoRow, standIns := [], harness := (true, "6206e07c864f80cf5bab66f188630ba1fc0f1e8b983c5362273b87d7aee30f80"), looks := true }, kinds := [], alts := [], laidByText := true, laidKinds := [.data, .data, .data, .data, .pinned], laidTests := true, laidLooks := .later }
def ScriptTwoCardSaid : Prop := Claim7.holds Tryz.pinned (.plain (OpenSpec.ofChange scriptTwoSpec)) scriptTwoCard

/-- THE SECOND FORM's CARD OF 'placketlaw14.ScriptSpaces'. -/
def scriptSpacesUptoCard : Claim7 := { stood := { row := scriptSpacesUptoRow, standIns := [], harness := (true, "6206e07c864f80cf5bab66f188630ba1fc0f1e8b983c5362273b87d7aee30f80"), looks := true }, kinds := [], alts := [], laidByText := true, laidKinds := [.data, .data, .data, .data, .pinned], laidTests := true, laidLooks := .later }
def ScriptSpacesUptoCardSaid : Prop := Claim7.holds Tryz.pinned (.plain (OpenSpec.upto scriptSpacesSpec)) scriptSpacesUptoCard

/-- THE SECOND FORM's CARD OF 'placketlaw14.ScriptQuiet'. -/
def scriptQuietUptoCard : Claim7 := { stood := { row := scriptQuietUptoRow, standIns := [], harness := (true, "6206e07c864f80cf5bab66f188630ba1fc0f1e8b983c5362273b87d7aee30f80"), looks := true }, kinds := [], alts := [], laidByText := true, laidKinds := [.data, .data, .data, .data, .pinned], laidTests := true, laidLooks := .later }
def ScriptQuietUptoCardSaid : Prop := Claim7.holds Tryz.pinned (.plain (OpenSpec.upto scriptQuietSpec)) scriptQuietUptoCard

/-- THE SECOND FORM's CARD OF 'placketlaw14.ScriptTwo'. -/
def scriptTwoUptoCard : Claim7 := { stood := { row := scriptTwoUptoRow, standIns := [], harness := (true, "6206e07c864f80cf5bab66f188630ba1fc0f1e8b983c5362273b87d7aee30f80"), looks := true }, kinds := [], alts := [], laidByText := true, laidKinds := [.data, .data, .data, .data, .pinned], laidTests := true, laidLooks := .later }
def ScriptTwoUptoCardSaid : Prop := Claim7.holds Tryz.pinned (.plain (OpenSpec.upto scriptTwoSpec)) scriptTwoUptoCard
end Rows
end Go.Proofs.YteilldmmihiijaaGreatDoor
