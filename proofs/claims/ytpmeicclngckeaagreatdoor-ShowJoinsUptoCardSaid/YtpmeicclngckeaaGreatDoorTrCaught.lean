/- SetOf, Holds, and what a call that may panic answers. -/
import Derived.Test.YtpmeicclngckeaaGreatDoorNdFits
import Derived.Test.YtpmeicclngckeaaGreatDoorTrWk
import Derived.Defers
import Derived.Recover
import Derived.Tactics2
namespace Go.Proofs.YtpmeicclngckeaaGreatDoor
open Go Go.RowKit

/-- Is a node a One of a set? -/
def nholds (d : Nd) (s : OSet) : Bool := match d with
  | .one t => decide (t = s)
  | _ => false
theorem hset_eql (s t : OSet) (w : World) : (Op.equalIn 10000 27 (.agg #[.int .u64 (ow s 0), .int .u64 (ow s 1), .int .u64 (ow s 2), .int .u64 (ow s 3)]) (.agg #[.int .u64 (ow t 0), .int .u64 (ow t 1), .int .u64 (ow t 2), .int .u64 (ow t 3)])).run Tryz.prog w = .ok (decide (s = t)) w := by
  have hc : Tryz.prog.cellsOf 22 = 1 := by kernel_rfl
  have hi0 : (Tryz.prog.info? 22).isSome = true := by kernel_rfl
  obtain ⟨i, hi⟩ := Option.isSome_iff_exists.1 hi0
  rw [run_equalIn_array w 9999 (e := 22) (n := 4) _ _ Tryz.underlying27 hi]
  rw [hc, show List.range 4 = [0, 1, 2, 3] from rfl, req_items, rset_beq]
set_option linter.unusedSimpArgs false in
set_option maxRecDepth 100000 in
set_option maxHeartbeats 2000000 in
theorem holds_any {F : Nat → Prop} (d : Nd) (v : Value) (t : OSet) (w : World) (h : NdX F w d v) : Calls Tryz.prog 12 #[v, .agg #[.int .u64 (ow t 0), .int .u64 (ow t 1), .int .u64 (ow t 2), .int .u64 (ow t 3)]] w fun e w' => e = .returned (.bool (nholds d t)) ∧ Below w.heap.size w w' := by
  have hq := hset_eql
  rcases nd_kinds h with ⟨rfl, rfl | rfl⟩ | ⟨s, rfl, rfl⟩ | ⟨l, a, cap, rfl, rfl, hr⟩ | ⟨l, a, cap, rfl, rfl, hr⟩ | ⟨d', mn, mx, u, rfl, rfl, hu⟩ | ⟨num, d', u, rfl, rfl, hu⟩ | ⟨num, rfl, rfl⟩ | ⟨rfl, rfl⟩ | ⟨rfl, rfl⟩
  all_goals
    go_enter Tryz.func12, Tryz.ntmps12
    go_wp2_with fail
    go_ret
    refine ⟨rfl, ?_⟩
    repeat (first | (with_reducible exact Below.refl _ _) | refine Below.drew ?_ | refine Below.setCell ?_ (by first | omega | (simp; omega) | simp) _ | refine Below.alloc ?_ (by first | omega | (simp; omega) | simp) _)
end Go.Proofs.YtpmeicclngckeaaGreatDoor
