/- The statements' fixed fact about basic regexes, walked. -/
import Derived.Test.YtacpoandhocmhaaDoorCmn
import Derived.Test.YtacpoandhocmhaaDoorRdMP
import Derived.Test.YtacpoandhocmhaaDoorMaC
import Derived.Test.YtacpoandhocmhaaDoorNdAb
namespace Go.Proofs.YtacpoandhocmhaaDoor
open Go Go.RowKit

end Go.Proofs.YtacpoandhocmhaaDoor
