/-
  DERIVED. GIVEN WITH THE SEED: THE CARDS: each row of YtbbcjclkklmoaaaDoorRows.lean that lists a variable, with what it lists TIED to the program's text (the seventh form; the later family's looks); each row that meets fmt, with fmt's text TOLD by the authors' own Lean function (tested against real Go, not proved from fmt's source: count such statements apart). THE CARD IS WHAT COUNTS. Prove the row's statement (the work); the ties are given (YtbbcjclkklmoaaaDoorTie.lean); close each card by the builder's one call (the guide's Derived/Test/ToyasCard.lean, 'card_holds'). Laid BY PROGRAM, IN A SANDBOX (cutbox-door.mjs). By AI agents, Wed Nov 11 2026. No macro, syntax, notation, axiom, sorry.
-/
import Derived.Test.YtbbcjclkklmoaaaDoorRows
import GoSem.ClaimSeven
namespace Go.Proofs.YtbbcjclkklmoaaaDoor
namespace Rows

/-- THE TIED CARD OF 'placketlaw04.BreQuotes'. -/
def breQuotesCard : Claim7 := { stood := { row := breQuotesRow, standIns := [], harness := (true, "76d6e1b1316495af0a89d5413cdd131459df2eab2cebfecaf75cf8ec87e3c2d7"), looks := true }, kinds := [], alts := [], laidByText := true, laidKinds := [.data, .data], laidTests := true, laidLooks := .later }
def BreQuotesCardSaid : Prop := Claim7.holds Tryd.pinned (.plain (OpenSpec.ofChange breQuotesSpec)) breQuotesCard

/-- THE TIED CARD OF 'placketlaw04.BreGroups'. -/
def breGroupsCard : Claim7 := { stood := { row := breGroupsRow, standIns := [], harness := (true, "76d6e1b1316495af0a89d5413cdd131459df2eab2cebfecaf75cf8ec87e3c2d7"), looks := true }, kinds := [], alts := [], laidByText := true, laidKinds := [.data, .data], laidTests := true, laidLooks := .later }
def BreGroupsCardSaid : Prop := Claim7.holds Tryd.pinned (.plain (OpenSpec.ofChange breGroupsSpec)) breGroupsCard

/-- THE TIED CARD OF 'placketlaw04.BreBounds'. -/
def breBoundsCard : Claim7 := { stood := { row := breBoundsRow, standIns := [], harness := (true, "76d6e1b1316495af0a89d5413cdd131459df2eab2cebfecaf75cf8ec87e3c2d7"), looks := true }, kinds := [], alts := [], laidByText := true, laidKinds := [.data, .data], laidTests := true, laidLooks := .later }
def BreBoundsCardSaid : Prop := Claim7.holds Tryd.pinned (.plain (OpenSpec.ofChange breBoundsSpec)) breBoundsCard

/-- THE TIED CARD OF 'placketlaw04.BrePlain'. -/
def brePlainCard : Claim7 := { stood := { row := brePlainRow, standIns := [], harness := (true, "76d6e1b1316495af0a89d5413cdd131459df2eab2cebfecaf75cf8ec87e3c2d7"), looks := true }, kinds := [], alts := [], laidByText := true, laidKinds := [.data, .data], laidTests := true, laidLooks := .later }
def BrePlainCardSaid : Prop := Claim7.holds Tryd.pinned (.plain (OpenSpec.ofChange brePlainSpec)) brePlainCard

/-- THE TIED CARD OF 'placketlaw05.EreQuotes'. -/
def ereQuotesCard : Claim7 := { stood := { row := ereQuotesRow, standIns := [], harness := (true, "76d6e1b1316495af0a89d5413cdd131459df2eab2cebfecaf75cf8ec87e3c2d7"), looks := true }, kinds := [], alts := [], laidByText := true, laidKinds := [.data, .data], laidTests := true, laidLooks := .later }
def EreQuotesCardSaid : Prop := Claim7.holds Tryd.pinned (.plain (OpenSpec.ofChange ereQuotesSpec)) ereQuotesCard

/-- THE TIED CARD OF 'placketlaw05.EreGroups'. -/
def ereGroupsCard : Claim7 := { stood := { row := ereGroupsRow, standIns := [], harness := (true, "76d6e1b1316495af0a89d5413cdd131459df2eab2cebfecaf75cf8ec87e3c2d7"), looks := true }, kinds := [], alts := [], laidByText := true, laidKinds := [.data, .data], laidTests := true, laidLooks := .later }
def EreGroupsCardSaid : Prop := Claim7.holds Tryd.pinned (.plain (OpenSpec.ofChange ereGroupsSpec)) ereGroupsCard

/-- THE SECOND FORM's CARD OF 'placketlaw04.BreQuotes'. -/
def breQuotesUptoCard : Claim7 := { stood := { row := breQuotesUptoRow, standIns := [], harness := (true, "76d6e1b1316495af0a89d5413cdd131459df2eab2cebfecaf75cf8ec87e3c2d7"), looks := true }, kinds := [], alts := [], laidByText := true, laidKinds := [.data, .data], laidTests := true, laidLooks := .later }
def BreQuotesUptoCardSaid : Prop := Claim7.holds Tryd.pinned (.plain (OpenSpec.upto breQuotesSpec)) breQuotesUptoCard

/-- THE SECOND FORM's CARD OF 'placketlaw04.BreGroups'. -/
def breGroupsUptoCard : Claim7 := { stood := { row := breGroupsUptoRow, standIns := [], harness := (true, "76d6e1b1316495af0a89d5413cdd131459df2eab2cebfecaf75cf8ec87e3c2d7"), looks := true }, kinds := [], alts := [], laidByText := true, laidKinds := [.data, .data], laidTests := true, laidLooks := .later }
def BreGroupsUptoCardSaid : Prop := Claim7.holds Tryd.pinned (.plain (OpenSpec.upto breGroupsSpec)) breGroupsUptoCard

/-- THE SECOND FORM's CARD OF 'placketlaw04.BreBounds'. -/
def breBoundsUptoCard : Claim7 := { stood := { row := breBoundsUptoRow, standIns := [], harness := (true, "76d6e1b1316495af0a89d5413cdd131459df2eab2cebfecaf75cf8ec87e3c2d7"), looks := true }, kinds := [], alts := [], laidByText := true, laidKinds := [.data, .data], laidTests := true, laidLooks := .later }
def BreBoundsUptoCardSaid : Prop := Claim7.holds Tryd.pinned (.plain (OpenSpec.upto breBoundsSpec)) breBoundsUptoCard

/-- THE SECOND FORM's CARD OF 'placketlaw04.BrePlain'. -/
def brePlainUptoCard : Claim7 := { stood := { row := brePlainUptoRow, standIns := [], harness := (true, "76d6e1b1316495af0a89d5413cdd131459df2eab2cebfecaf75cf8ec87e3c2d7"), looks := true }, kinds := [], alts := [], laidByText := true, laidKinds := [.data, .data], laidTests := true, laidLooks := .later }
def BrePlainUptoCardSaid : Prop := Claim7.holds Tryd.pinned (.plain (OpenSpec.upto brePlainSpec)) brePlainUptoCard

/-- THE SECOND FORM's CARD OF 'placketlaw05.EreQuotes'. -/
def ereQuotesUptoCard : Claim7 := { stood := { row := ereQuotesUptoRow, standIns := [], harness := (true, "76d6e1b1316495af0a89d5413cdd131459df2eab2cebfecaf75cf8ec87e3c2d7"), looks := true }, kinds := [], alts := [], laidByText := true, laidKinds := [.data, .data], laidTests := true, laidLooks := .later }
def EreQuotesUptoCardSaid : Prop := Claim7.holds Tryd.pinned (.plain (OpenSpec.upto ereQuotesSpec)) ereQuotesUptoCard

/-- THE SECOND FORM's CARD OF 'placketlaw05.EreGroups'. -/
def ereGroupsUptoCard : Claim7 := { stood := { row := ereGroupsUptoRow, standIns := [], harness := (true, "76d6e1b1316495af0a89d5413cdd131459df2eab2cebfecaf75cf8ec87e3c2d7"), looks := true }, kinds := [], alts := [], laidByText := true, laidKinds := [.data, .data], laidTests := true, laidLooks := .later }
def EreGroupsUptoCardSaid : Prop := Claim7.holds Tryd.pinned (.plain (OpenSpec.upto ereGroupsSpec)) ereGroupsUptoCard
end Rows
end Go.Proofs.YtbbcjclkklmoaaaDoor
