/- RdAt: The reader of package bre in memory: its five cells, the rows of marks and of closed groups that it makes; what a step leaves as it was.
   RdA: The reader's small steps: skip, branchEnds, number.
   RdB: The reader's marks: skipMarked. -/
import Derived.Test.YtacpoandhocmhaaDoorCmn
import Derived.Test.YtacpoandhocmhaaDoorMaB
import Derived.Test.YtacpoandhocmhaaDoorMaC
import Derived.Test.YtacpoandhocmhaaDoorMaA
import Derived.Test.YtacpoandhocmhaaDoorNdAo
import Derived.Test.YtacpoandhocmhaaDoorNdInner
import Derived.Test.YtacpoandhocmhaaDoorIdx
import Derived.Deep.RegionHeld3
import Derived.Deep.QuietTactic
import Derived.BigQuiet
import Derived.Lib.OthersKept
import Derived.Deep.AppendLies
namespace Go.Proofs.YtacpoandhocmhaaDoor
open Go Go.RowKit

end Go.Proofs.YtacpoandhocmhaaDoor
namespace Go.Proofs.YtacpoandhocmhaaDoor
open Go Go.RowKit

set_option maxRecDepth 100000 in
theorem decodeN_hi (n b c d e : Nat) (h : ¬ b < 128) : 127 < (Lib.decodeN n b c d e).1 := by
  unfold Lib.decodeN
  rw [if_neg h]
  repeat' split
  all_goals (simp only; omega)
theorem decode_hi (s : ByteArray) (pos : Nat) (h : ¬ (s.data.toList.getD pos 0).toNat < 128) : 127 < (Utf8.decode s pos).1 := by
  rw [decode_list]
  exact decodeN_hi _ _ _ _ _ h
theorem ext_size (s : ByteArray) (k : Nat) : (s.extract k s.size).size = s.size - k := by
  simp
theorem ext_byt (s : ByteArray) (k j : Nat) : ((s.extract k s.size).data.toList.getD j 0).toNat = byt s.data.toList (k + j) := by
  rw [ext_list]
  unfold byt
  rw [List.getD_eq_getElem?_getD, List.getD_eq_getElem?_getD, List.getElem?_drop]
theorem ret_ib {a : Int} {b c : Bool} (h : b = c) : Ending.returned (.tuple #[.int .i64 a, .bool b]) = .returned (.tuple #[.int .i64 a, .bool c]) := by rw [h]
end Go.Proofs.YtacpoandhocmhaaDoor
namespace Go.Proofs.YtacpoandhocmhaaDoor
open Go Go.RowKit

end Go.Proofs.YtacpoandhocmhaaDoor
