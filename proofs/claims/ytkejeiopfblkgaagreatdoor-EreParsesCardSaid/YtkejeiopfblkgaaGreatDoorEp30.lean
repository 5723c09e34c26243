/- The proof's texts OctHeld: what the claim reaches of them. -/
import Derived.Test.YtkejeiopfblkgaaGreatDoorEp03
import Derived.Deep.RegionHeld3
import Derived.ChangeKeysEq
namespace Go.Proofs.YtkejeiopfblkgaaGreatDoor
open Go.RowKit
theorem opart0 (a b c d : Int) (w : World) : (part 31 #[.int .u64 a, .int .u64 b, .int .u64 c, .int .u64 d] (0 * 1)).run Tryz.prog w = .ok (.int .u64 a) w := by kernel_rfl
theorem opart1' (a b c d : Int) (w : World) : (part 31 #[.int .u64 a, .int .u64 b, .int .u64 c, .int .u64 d] 1).run Tryz.prog w = .ok (.int .u64 b) w := by kernel_rfl
theorem opart2' (a b c d : Int) (w : World) : (part 31 #[.int .u64 a, .int .u64 b, .int .u64 c, .int .u64 d] 2).run Tryz.prog w = .ok (.int .u64 c) w := by kernel_rfl
theorem opart3' (a b c d : Int) (w : World) : (part 31 #[.int .u64 a, .int .u64 b, .int .u64 c, .int .u64 d] 3).run Tryz.prog w = .ok (.int .u64 d) w := by kernel_rfl
set_option linter.unusedSimpArgs false in
theorem oeq_items (a b c d a' b' c' d' : Int) (w : World) : (Op.eqItems 9999 31 1 #[.int .u64 a, .int .u64 b, .int .u64 c, .int .u64 d] #[.int .u64 a', .int .u64 b', .int .u64 c', .int .u64 d'] [0, 1, 2, 3]).run Tryz.prog w = .ok (a == a' && (b == b' && (c == c' && d == d'))) w := by
 have h := fun (x y : Int) (w : World) => (run_equalIn_int (P := Tryz.prog) w 9998 31 .u64 .u64 x y Tryz.underlying31 : (Op.equalIn 9999 31 (.int .u64 x) (.int .u64 y)).run Tryz.prog w = _)
 simp only [Op.eqItems, Sem.run_bind, opart0, h, Result.andThen_ok]
 cases ha : a == a' <;> cases hb : b == b' <;> cases hc : c == c' <;> cases hd : d == d' <;> simp [ha, hb, hc, hd, h, opart1', opart2', opart3']
theorem oset_beq (s t : OSet) : (ow s 0 == ow t 0 && (ow s 1 == ow t 1 && (ow s 2 == ow t 2 && ow s 3 == ow t 3))) = decide (s = t) := by
 by_cases h : s = t
 ·subst h; simp
 ·have h2 := oset_ne h
  rw [decide_eq_false h]
  cases hx : (ow s 0 == ow t 0 && (ow s 1 == ow t 1 && (ow s 2 == ow t 2 && ow s 3 == ow t 3)))
  ·rfl
  ·exfalso
   simp only [Bool.and_eq_true, beq_iff_eq] at hx
   exact h2 hx
theorem oset_eql (s t : OSet) (w : World) : (Op.equalIn 10000 97 (.agg #[.int .u64 (ow s 0), .int .u64 (ow s 1), .int .u64 (ow s 2), .int .u64 (ow s 3)]) (.agg #[.int .u64 (ow t 0), .int .u64 (ow t 1), .int .u64 (ow t 2), .int .u64 (ow t 3)])).run Tryz.prog w = .ok (decide (s = t)) w := by
 have hc : Tryz.prog.cellsOf 31 = 1 := by kernel_rfl
 have hi0 : (Tryz.prog.info? 31).isSome = true := by kernel_rfl
 obtain ⟨i, hi⟩ := Option.isSome_iff_exists.1 hi0
 rw [run_equalIn_array w 9999 (e := 31) (n := 4) _ _ Tryz.underlying97 hi]
 rw [hc, show List.range 4 = [0, 1, 2, 3] from rfl, oeq_items, oset_beq]
end Go.Proofs.YtkejeiopfblkgaaGreatDoor
