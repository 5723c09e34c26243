/- The walk of OctetClasses: of any name it returns true; what was there stays as it was. -/
import Derived.Test.YtjjmkplicjkokaaOctRClass
import Derived.Test.YtjjmkplicjkokaaOctHeld
namespace Go.Proofs.Ytjjmkplicjkokaa
open Go.RowKit

set_option maxRecDepth 100000 in
set_option maxHeartbeats 2000000 in
theorem classes_any (s : ByteArray) (w : World) :
    Calls Try.prog 4 #[.string s] w fun e w' => e = .returned (.bool true) ∧ Below w.heap.size w w' := by
  by_cases hs : s.size ≤ 50
  · have q := oset_eql
    generalize hx : clsSet s.toList = x
    have Hx := Lib.hid hx
    clear hx
    generalize hy : clsOk s.toList = y
    have Hy := Lib.hid hy
    clear hy
    go_enter Try.func4, Try.ntmps4
    go_wp2_with fail
    refine (awake_any _).mono ?_
    rintro e w1 ⟨rfl, b1⟩
    have hW := b1
    go_wp2_with fail
    refine (class_any s _).mono ?_
    rintro e w2 ⟨rfl, b2⟩
    rw [Hx.out, Hy.out]
    replace hW := hW.trans (b2.mono hW.size)
    have hB := Blk.new w2 (oc x) 26 _ rfl
    replace hW := hW.alloc hW.size (.cells (oc x) 26)
    go_wp2_with fail
    refine (rclass_any s _).mono ?_
    rintro e w3 ⟨rfl, b3⟩
    rw [Hx.out, Hy.out]
    replace hW := hW.trans (b3.mono hW.size)
    replace hB := hB.below b3 hB.lt
    have hl := hB.lt
    obtain ⟨c0, c1, c2, c3⟩ := oblk_cells hB
    go_wp2
    go_ret
    exact ⟨by simp, hW.alloc hW.size _⟩
  · go_enter Try.func4, Try.ntmps4
    go_wp2_with fail
    refine (awake_any _).mono ?_
    rintro e w1 ⟨rfl, b1⟩
    have hW := b1
    go_wp2_with fail
    refine (awake_any _).mono ?_
    rintro e w2 ⟨rfl, b2⟩
    replace hW := hW.trans (b2.mono hW.size)
    go_wp2
    go_ret
    exact ⟨rfl, hW⟩

end Go.Proofs.Ytjjmkplicjkokaa
