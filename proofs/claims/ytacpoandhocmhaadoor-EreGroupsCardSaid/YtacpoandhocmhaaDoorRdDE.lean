/- RdD: The reader's repetitions.
   RdE: The reader's Backs; a class that there is. -/
import Derived.Test.YtacpoandhocmhaaDoorCmn
import Derived.Test.YtacpoandhocmhaaDoorRdAB
import Derived.Test.YtacpoandhocmhaaDoorRx
import Derived.Test.YtacpoandhocmhaaDoorOctW
namespace Go.Proofs.YtacpoandhocmhaaDoor
open Go Go.RowKit

end Go.Proofs.YtacpoandhocmhaaDoor
namespace Go.Proofs.YtacpoandhocmhaaDoor
open Go Go.RowKit

end Go.Proofs.YtacpoandhocmhaaDoor
