/- The statement EreQuotes, walked. -/
import Derived.Test.YtacpoandhocmhaaDoorEqP
import Derived.Test.YtacpoandhocmhaaDoorEmST
namespace Go.Proofs.YtacpoandhocmhaaDoor
open Go Go.RowKit
theorem equotes_all (a : Option Addr) (len cap : Nat) (zs : List Int) {w0 : World} (hrow : IsRow .u8 w0 a len cap zs) (w : World) (hG : Gl w) (hw : w0 = w := by rfl) :
    Calls Tryd.prog 3 #[.slice a len cap] w fun e w' => e = .returned (.bool true) ∧ Below w.heap.size w w' := equotes_any (fun s w hG => eparse_any s w hG) a len cap zs hrow w hG hw
end Go.Proofs.YtacpoandhocmhaaDoor
