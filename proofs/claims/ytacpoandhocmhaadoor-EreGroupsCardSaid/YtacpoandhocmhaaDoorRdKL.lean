/- RdK: The reader's pieces, any; a row of nodes beside the reader.
   RdL: The reader's branches. -/
import Derived.Test.YtacpoandhocmhaaDoorRdIJ
import Derived.Test.YtacpoandhocmhaaDoorMaC
import Derived.Test.YtacpoandhocmhaaDoorNdJoin
namespace Go.Proofs.YtacpoandhocmhaaDoor
open Go Go.RowKit

end Go.Proofs.YtacpoandhocmhaaDoor
namespace Go.Proofs.YtacpoandhocmhaaDoor
open Go Go.RowKit

end Go.Proofs.YtacpoandhocmhaaDoor
