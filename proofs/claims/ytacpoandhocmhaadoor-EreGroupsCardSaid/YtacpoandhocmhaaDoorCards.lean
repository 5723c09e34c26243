/-
  DERIVED. GIVEN WITH THE SEED: THE CARDS: each row of YtacpoandhocmhaaDoorRows.lean that lists a variable, with what it lists TIED to the program's text (the seventh form; the later family's looks); each row that meets fmt, with fmt's text TOLD by the authors' own Lean function (tested against real Go, not proved from fmt's source: count such statements apart). THE CARD IS WHAT COUNTS. Prove the row's statement (the work); the ties are given (YtacpoandhocmhaaDoorTie.lean); close each card by the builder's one call (the guide's Derived/Test/ToyasCard.lean, 'card_holds'). Laid BY PROGRAM, IN A SANDBOX (cutbox-door.mjs). By AI agents, Wed Nov 11 2026. No macro, syntax, notation, axiom, sorry.
-/
import Derived.Test.YtacpoandhocmhaaDoorRows
import GoSem.ClaimSeven
namespace Go.Proofs.YtacpoandhocmhaaDoor
namespace Rows

/-- THE TIED CARD OF 'placketlaw05.EreQuotes'. -/
def ereQuotesCard : Claim7 := { stood := { row := ereQuotesRow, standIns := [], harness := (true, "2551c4a3abf64e4e78bbd9901cd1afe46f513f42af7f1aaf341e00b6a8be7489"), looks := true }, kinds := [], alts := [], laidByText := true, laidKinds := [.data, .data], laidTests := true, laidLooks := .later }
def EreQuotesCardSaid : Prop := Claim7.holds Tryd.pinned (.plain (OpenSpec.ofChange ereQuotesSpec)) ereQuotesCard

/-- THE TIED CARD OF 'placketlaw05.EreGroups'. -/
def ereGroupsCard : Claim7 := { stood := { row := ereGroupsRow, standIns := [], harness := (true, "2551c4a3abf64e4e78bbd9901cd1afe46f513f42af7f1aaf341e00b6a8be7489"), looks := true }, kinds := [], alts := [], laidByText := true, laidKinds := [.data, .data], laidTests := true, laidLooks := .later }
def EreGroupsCardSaid : Prop := Claim7.holds Tryd.pinned (.plain (OpenSpec.ofChange ereGroupsSpec)) ereGroupsCard

/-- THE SECOND FORM's CARD OF 'placketlaw05.EreQuotes'. -/
def ereQuotesUptoCard : Claim7 := { stood := { row := ereQuotesUptoRow, standIns := [], harness := (true, "2551c4a3abf64e4e78bbd9901cd1afe46f513f42af7f1aaf341e00b6a8be7489"), looks := true }, kinds := [], alts := [], laidByText := true, laidKinds := [.data, .data], laidTests := true, laidLooks := .later }
def EreQuotesUptoCardSaid : Prop := Claim7.holds Tryd.pinned (.plain (OpenSpec.upto ereQuotesSpec)) ereQuotesUptoCard

/-- THE SECOND FORM's CARD OF 'placketlaw05.EreGroups'. -/
def ereGroupsUptoCard : Claim7 := { stood := { row := ereGroupsUptoRow, standIns := [], harness := (true, "2551c4a3abf64e4e78bbd9901cd1afe46f513f42af7f1aaf341e00b6a8be7489"), looks := true }, kinds := [], alts := [], laidByText := true, laidKinds := [.data, .data], laidTests := true, laidLooks := .later }
def EreGroupsUptoCardSaid : Prop := Claim7.holds Tryd.pinned (.plain (OpenSpec.upto ereGroupsSpec)) ereGroupsUptoCard
end Rows
end Go.Proofs.YtacpoandhocmhaaDoor
