/-
  NARROWER THAN 'FOR EVERY INPUT', by the rows' own cells (each row's printed sentence says how): PieceTakes: laid · PieceBetween: laid · PieceQuoted: laid · PieceTexts: laid · PieceNumbers: laid.
  DERIVED. THE GIVEN ROWS OF THIS SEAT. 5 by the template 'for every input the law returns true; each argument reads behind the call as it read before'; 0 by the template 'total and deterministic' (their statements: YtbhmpdbcjchdfaaDoorTotals.lean).
  GIVEN WITH THE SEED: the statements are not yours to turn. If you find one false, say at which input.
  Laid BY PROGRAM, IN A SANDBOX (cutbox-rows.mjs): the forced cells as the released guide's own fill.sh prints them over the translation 941522478d132348… (all of the seat's roots in one cut). By AI agents, Wed Nov 11 2026. No macro, syntax, notation, axiom, sorry.
-/
import Derived.Test.YtbhmpdbcjchdfaaDoorChecked
import GoSem.PinnedTables
import GoSem.Claim
import GoSem.ClaimJoined
import GoSem.ClaimMapViews
import Derived.JoinedTies
import Derived.KernelRfl
namespace Go.Proofs.YtbhmpdbcjchdfaaDoor
/- THE CELL 'sum', in the pinned program and in every row, IS THE sha256 OF THE DUMP (.gsa) THAT YtbhmpdbcjchdfaaDoorProg.lean LOADS. Nothing in Lean hashes anything: it is a label: what it is worth is what the hold of that sum in a sandbox is worth. -/
noncomputable def Tryd.pinned : Pinned := { name := "ytbhmpdbcjchdfaadoor", sum := "941522478d132348c370f228c5add649cfcc0fc1e284895cadc7bc92f715f16a", checked := Tryd.checked }
namespace Rows
def none {H : Type} : Left H := { results := [], args := [] }

/- WHAT THE LISTED PACKAGE-LEVEL VARIABLES READ AS WHEN THE CALL BEGINS. Each datum BY PROGRAM (the guide's laid-datum.mjs) off the statement by which the dump's own 'gosem.cut.vars' lays the variable. In a bare row this is a premise. The card (YtbhmpdbcjchdfaaDoorCards.lean) ties it to the program's text. -/
def laid_unicode_utf8_acceptRanges {H : Type} : DataW H := .agg [.agg [.lit (.int .u8 128), .lit (.int .u8 191)], .agg [.lit (.int .u8 160), .lit (.int .u8 191)], .agg [.lit (.int .u8 128), .lit (.int .u8 159)], .agg [.lit (.int .u8 144), .lit (.int .u8 191)], .agg [.lit (.int .u8 128), .lit (.int .u8 143)], .agg [.lit (.int .u8 0), .lit (.int .u8 0)], .agg [.lit (.int .u8 0), .lit (.int .u8 0)], .agg [.lit (.int .u8 0), .lit (.int .u8 0)], .agg [.lit (.int .u8 0), .lit (.int .u8 0)], .agg [.lit (.int .u8 0), .lit (.int .u8 0)], .agg [.lit (.int .u8 0), .lit (.int .u8 0)], .agg [.lit (.int .u8 0), .lit (.int .u8 0)], .agg [.lit (.int .u8 0), .lit (.int .u8 0)], .agg [.lit (.int .u8 0), .lit (.int .u8 0)], .agg [.lit (.int .u8 0), .lit (.int .u8 0)], .agg [.lit (.int .u8 0), .lit (.int .u8 0)]]
def laid_placket_piece_ahead {H : Type} : DataW H := .agg [.lit (.int .u8 94), .lit (.int .u8 93)]
/-- One of Go's own tables, pinned by name: the form's constant. -/
def laid_unicode_utf8_first : DataW Unit := Go.Pinned.utf8First

/-- 'placketlaw11.PieceTakes': WHATEVER THE INPUT: true; the input reads as it did. -/
def pieceTakesSpec : ChangeSpec := { name := "pieceTakes", fn := fun _ => fun
  | [d1, d2, d3] => { results := [.lit (.bool true)], args := [d1, d2, d3] }
  | _ => none }
def pieceTakesRow : OpenClaim := { program := "ytbhmpdbcjchdfaadoor", sum := "941522478d132348c370f228c5add649cfcc0fc1e284895cadc7bc92f715f16a", func := "placket/placketlaw11.PieceTakes", spec := "pieceTakes", inPlace := ["internal/bytealg.IndexByteString", "internal/abi.NoEscape", "internal/bytealg.IndexString"], named := ["placket/piece.ahead", "unicode/utf8.first", "unicode/utf8.acceptRanges", "internal/bytealg.MaxLen"], apart := false, laid := [("unicode/utf8.acceptRanges", laid_unicode_utf8_acceptRanges), ("placket/piece.ahead", laid_placket_piece_ahead), ("unicode/utf8.first", laid_unicode_utf8_first)] }
def PieceTakesSaid : Prop := pieceTakesRow.holds Tryd.pinned (OpenSpec.ofChange pieceTakesSpec)

/-- ITS FALSE NEIGHBOUR: 'it returns false'. Refute it at one input. -/
def pieceTakesWrong : ChangeSpec := { name := "pieceTakes", fn := fun _ => fun
  | [d1, d2, d3] => { results := [.lit (.bool false)], args := [d1, d2, d3] }
  | _ => none }
def PieceTakesWrongFalsely : Prop := pieceTakesRow.holds Tryd.pinned (OpenSpec.ofChange pieceTakesWrong)

/-- 'placketlaw11.PieceBetween': WHATEVER THE INPUT: true; the input reads as it did. -/
def pieceBetweenSpec : ChangeSpec := { name := "pieceBetween", fn := fun _ => fun
  | [d1, d2, d3] => { results := [.lit (.bool true)], args := [d1, d2, d3] }
  | _ => none }
def pieceBetweenRow : OpenClaim := { program := "ytbhmpdbcjchdfaadoor", sum := "941522478d132348c370f228c5add649cfcc0fc1e284895cadc7bc92f715f16a", func := "placket/placketlaw11.PieceBetween", spec := "pieceBetween", inPlace := ["internal/bytealg.IndexByteString", "internal/abi.NoEscape", "internal/bytealg.IndexString"], named := ["placket/piece.ahead", "unicode/utf8.first", "unicode/utf8.acceptRanges", "internal/bytealg.MaxLen"], apart := false, laid := [("unicode/utf8.acceptRanges", laid_unicode_utf8_acceptRanges), ("placket/piece.ahead", laid_placket_piece_ahead), ("unicode/utf8.first", laid_unicode_utf8_first)] }
def PieceBetweenSaid : Prop := pieceBetweenRow.holds Tryd.pinned (OpenSpec.ofChange pieceBetweenSpec)

/-- ITS FALSE NEIGHBOUR: 'it returns false'. Refute it at one input. -/
def pieceBetweenWrong : ChangeSpec := { name := "pieceBetween", fn := fun _ => fun
  | [d1, d2, d3] => { results := [.lit (.bool false)], args := [d1, d2, d3] }
  | _ => none }
def PieceBetweenWrongFalsely : Prop := pieceBetweenRow.holds Tryd.pinned (OpenSpec.ofChange pieceBetweenWrong)

/-- 'placketlaw11.PieceQuoted': WHATEVER THE INPUT: true; the input reads as it did. -/
def pieceQuotedSpec : ChangeSpec := { name := "pieceQuoted", fn := fun _ => fun
  | [d1, d2, d3] => { results := [.lit (.bool true)], args := [d1, d2, d3] }
  | _ => none }
def pieceQuotedRow : OpenClaim := { program := "ytbhmpdbcjchdfaadoor", sum := "941522478d132348c370f228c5add649cfcc0fc1e284895cadc7bc92f715f16a", func := "placket/placketlaw11.PieceQuoted", spec := "pieceQuoted", inPlace := ["internal/bytealg.IndexByteString", "internal/abi.NoEscape", "internal/bytealg.IndexString"], named := ["placket/piece.ahead", "unicode/utf8.first", "unicode/utf8.acceptRanges", "internal/bytealg.MaxLen"], apart := false, laid := [("unicode/utf8.acceptRanges", laid_unicode_utf8_acceptRanges), ("placket/piece.ahead", laid_placket_piece_ahead), ("unicode/utf8.first", laid_unicode_utf8_first)] }
def PieceQuotedSaid : Prop := pieceQuotedRow.holds Tryd.pinned (OpenSpec.ofChange pieceQuotedSpec)

/-- ITS FALSE NEIGHBOUR: 'it returns false'. Refute it at one input. -/
def pieceQuotedWrong : ChangeSpec := { name := "pieceQuoted", fn := fun _ => fun
  | [d1, d2, d3] => { results := [.lit (.bool false)], args := [d1, d2, d3] }
  | _ => none }
def PieceQuotedWrongFalsely : Prop := pieceQuotedRow.holds Tryd.pinned (OpenSpec.ofChange pieceQuotedWrong)

/-- 'placketlaw11.PieceTexts': WHATEVER THE INPUT: true; the input reads as it did. -/
def pieceTextsSpec : ChangeSpec := { name := "pieceTexts", fn := fun _ => fun
  | [d] => { results := [.lit (.bool true)], args := [d] }
  | _ => none }
def pieceTextsRow : OpenClaim := { program := "ytbhmpdbcjchdfaadoor", sum := "941522478d132348c370f228c5add649cfcc0fc1e284895cadc7bc92f715f16a", func := "placket/placketlaw11.PieceTexts", spec := "pieceTexts", inPlace := ["internal/bytealg.IndexByteString", "internal/abi.NoEscape", "internal/bytealg.IndexString"], named := ["placket/piece.ahead", "unicode/utf8.first", "unicode/utf8.acceptRanges", "internal/bytealg.MaxLen"], apart := false, laid := [("unicode/utf8.acceptRanges", laid_unicode_utf8_acceptRanges), ("placket/piece.ahead", laid_placket_piece_ahead), ("unicode/utf8.first", laid_unicode_utf8_first)] }
def PieceTextsSaid : Prop := pieceTextsRow.holds Tryd.pinned (OpenSpec.ofChange pieceTextsSpec)

/-- ITS FALSE NEIGHBOUR: 'it returns false'. Refute it at one input. -/
def pieceTextsWrong : ChangeSpec := { name := "pieceTexts", fn := fun _ => fun
  | [d] => { results := [.lit (.bool false)], args := [d] }
  | _ => none }
def PieceTextsWrongFalsely : Prop := pieceTextsRow.holds Tryd.pinned (OpenSpec.ofChange pieceTextsWrong)

/-- 'placketlaw11.PieceNumbers': WHATEVER THE INPUT: true; the input reads as it did. -/
def pieceNumbersSpec : ChangeSpec := { name := "pieceNumbers", fn := fun _ => fun
  | [d1, d2, d3] => { results := [.lit (.bool true)], args := [d1, d2, d3] }
  | _ => none }
def pieceNumbersRow : OpenClaim := { program := "ytbhmpdbcjchdfaadoor", sum := "941522478d132348c370f228c5add649cfcc0fc1e284895cadc7bc92f715f16a", func := "placket/placketlaw11.PieceNumbers", spec := "pieceNumbers", inPlace := ["internal/bytealg.IndexByteString", "internal/abi.NoEscape", "internal/bytealg.IndexString"], named := ["placket/piece.ahead", "unicode/utf8.first", "unicode/utf8.acceptRanges", "internal/bytealg.MaxLen"], apart := false, laid := [("unicode/utf8.acceptRanges", laid_unicode_utf8_acceptRanges), ("placket/piece.ahead", laid_placket_piece_ahead), ("unicode/utf8.first", laid_unicode_utf8_first)] }
def PieceNumbersSaid : Prop := pieceNumbersRow.holds Tryd.pinned (OpenSpec.ofChange pieceNumbersSpec)

/-- ITS FALSE NEIGHBOUR: 'it returns false'. Refute it at one input. -/
def pieceNumbersWrong : ChangeSpec := { name := "pieceNumbers", fn := fun _ => fun
  | [d1, d2, d3] => { results := [.lit (.bool false)], args := [d1, d2, d3] }
  | _ => none }
def PieceNumbersWrongFalsely : Prop := pieceNumbersRow.holds Tryd.pinned (OpenSpec.ofChange pieceNumbersWrong)

/- THE SECOND FORM. 'bulk': how many values and letters a reading holds, each counted each time it is reached (what is shared counts as often as it is met; a slice's spare places count too). A statement '..UptoSaid' is the law's where the arguments, and the package variables that the reading takes, are together of bulk at most 1048576: NARROWER than '..Said'. Prove '..Said' where nothing that the law and all that it calls make is longer than what came in: it says more and counts as full. Else prove '..UptoSaid'. A law counts once. -/
mutual
def uptoBulk {H : Type} : DataW H → Nat
  | .lit (.string bytes) => bytes.length + 1
  | .lit _ => 1
  | .nil => 1
  | .ptr d => uptoBulk d + 1
  | .slice elems spare => uptoBulkAll elems + uptoBulkAll spare + 1
  | .agg parts => uptoBulkAll parts + 1
  | .iface _ d => uptoBulk d + 1
  | .map entries => uptoBulkEntries entries + 1
  | .held _ => 1
def uptoBulkAll {H : Type} : List (DataW H) → Nat
  | [] => 0
  | d :: r => uptoBulk d + uptoBulkAll r
def uptoBulkEntries {H : Type} : List (Lit × DataW H) → Nat
  | [] => 0
  | x :: r => uptoBulkEntry x + uptoBulkEntries r
def uptoBulkEntry {H : Type} : Lit × DataW H → Nat
  | (.string bytes, d) => bytes.length + uptoBulk d + 1
  | (_, d) => uptoBulk d + 1
 end
def uptoSmall : (H : Type) → List (DataW H) → Bool := fun _ ds => decide (uptoBulkAll ds ≤ 1048576)
def OpenSpec.upto (s : _root_.Go.ChangeSpec) : _root_.Go.OpenSpec := { _root_.Go.OpenSpec.ofChange s with cond := some uptoSmall }

/-- 'placketlaw11.PieceTakes', WHERE WHAT IT READS IS OF BULK AT MOST 1048576: true; the input reads as it did. -/
def pieceTakesUptoRow : OpenClaim := { program := "ytbhmpdbcjchdfaadoor", sum := "941522478d132348c370f228c5add649cfcc0fc1e284895cadc7bc92f715f16a", func := "placket/placketlaw11.PieceTakes", spec := "pieceTakes", inPlace := ["internal/bytealg.IndexByteString", "internal/abi.NoEscape", "internal/bytealg.IndexString"], named := ["placket/piece.ahead", "unicode/utf8.first", "unicode/utf8.acceptRanges", "internal/bytealg.MaxLen"], apart := false, laid := [("unicode/utf8.acceptRanges", laid_unicode_utf8_acceptRanges), ("placket/piece.ahead", laid_placket_piece_ahead), ("unicode/utf8.first", laid_unicode_utf8_first)], narrowed := true }
def PieceTakesUptoSaid : Prop := pieceTakesUptoRow.holds Tryd.pinned (OpenSpec.upto pieceTakesSpec)

/-- 'placketlaw11.PieceBetween', WHERE WHAT IT READS IS OF BULK AT MOST 1048576: true; the input reads as it did. -/
def pieceBetweenUptoRow : OpenClaim := { program := "ytbhmpdbcjchdfaadoor", sum := "941522478d132348c370f228c5add649cfcc0fc1e284895cadc7bc92f715f16a", func := "placket/placketlaw11.PieceBetween", spec := "pieceBetween", inPlace := ["internal/bytealg.IndexByteString", "internal/abi.NoEscape", "internal/bytealg.IndexString"], named := ["placket/piece.ahead", "unicode/utf8.first", "unicode/utf8.acceptRanges", "internal/bytealg.MaxLen"], apart := false, laid := [("unicode/utf8.acceptRanges", laid_unicode_utf8_acceptRanges), ("placket/piece.ahead", laid_placket_piece_ahead), ("unicode/utf8.first", laid_unicode_utf8_first)], narrowed := true }
def PieceBetweenUptoSaid : Prop := pieceBetweenUptoRow.holds Tryd.pinned (OpenSpec.upto pieceBetweenSpec)

/-- 'placketlaw11.PieceQuoted', WHERE WHAT IT READS IS OF BULK AT MOST 1048576: true; the input reads as it did. -/
def pieceQuotedUptoRow : OpenClaim := { program := "ytbhmpdbcjchdfaadoor", sum := "941522478d132348c370f228c5add649cfcc0fc1e284895cadc7bc92f715f16a", func := "placket/placketlaw11.PieceQuoted", spec := "pieceQuoted", inPlace := ["internal/bytealg.IndexByteString", "internal/abi.NoEscape", "internal/bytealg.IndexString"], named := ["placket/piece.ahead", "unicode/utf8.first", "unicode/utf8.acceptRanges", "internal/bytealg.MaxLen"], apart := false, laid := [("unicode/utf8.acceptRanges", laid_unicode_utf8_acceptRanges), ("placket/piece.ahead", laid_placket_piece_ahead), ("unicode/utf8.first", laid_unicode_utf8_first)], narrowed := true }
def PieceQuotedUptoSaid : Prop := pieceQuotedUptoRow.holds Tryd.pinned (OpenSpec.upto pieceQuotedSpec)

/-- 'placketlaw11.PieceTexts', WHERE WHAT IT READS IS OF BULK AT MOST 1048576: true; the input reads as it did. -/
def pieceTextsUptoRow : OpenClaim := { program := "ytbhmpdbcjchdfaadoor", sum := "941522478d132348c370f228c5add649cfcc0fc1e284895cadc7bc92f715f16a", func := "placket/placketlaw11.PieceTexts", spec := "pieceTexts", inPlace := ["internal/bytealg.IndexByteString", "internal/abi.NoEscape", "internal/bytealg.IndexString"], named := ["placket/piece.ahead", "unicode/utf8.first", "unicode/utf8.acceptRanges", "internal/bytealg.MaxLen"], apart := false, laid := [("unicode/utf8.acceptRanges", laid_unicode_utf8_acceptRanges), ("placket/piece.ahead", laid_placket_piece_ahead), ("unicode/utf8.first", laid_unicode_utf8_first)], narrowed := true }
def PieceTextsUptoSaid : Prop := pieceTextsUptoRow.holds Tryd.pinned (OpenSpec.upto pieceTextsSpec)

/-- 'placketlaw11.PieceNumbers', WHERE WHAT IT READS IS OF BULK AT MOST 1048576: true; the input reads as it did. -/
def pieceNumbersUptoRow : OpenClaim := { program := "ytbhmpdbcjchdfaadoor", sum := "941522478d132348c370f228c5add649cfcc0fc1e284895cadc7bc92f715f16a", func := "placket/placketlaw11.PieceNumbers", spec := "pieceNumbers", inPlace := ["internal/bytealg.IndexByteString", "internal/abi.NoEscape", "internal/bytealg.IndexString"], named := ["placket/piece.ahead", "unicode/utf8.first", "unicode/utf8.acceptRanges", "internal/bytealg.MaxLen"], apart := false, laid := [("unicode/utf8.acceptRanges", laid_unicode_utf8_acceptRanges), ("placket/piece.ahead", laid_placket_piece_ahead), ("unicode/utf8.first", laid_unicode_utf8_first)], narrowed := true }
def PieceNumbersUptoSaid : Prop := pieceNumbersUptoRow.holds Tryd.pinned (OpenSpec.upto pieceNumbersSpec)

end Rows
end Go.Proofs.YtbhmpdbcjchdfaaDoor
