/- The statement BracketParses, walked. -/
import Derived.Test.YtehikndlcepkgaaDoorBrAwake
import Derived.Test.YtehikndlcepkgaaDoorBrHold
import Derived.Test.YtehikndlcepkgaaDoorBrRefD
namespace Go.Proofs.YtehikndlcepkgaaDoor
open Go.RowKit

set_option linter.unusedSimpArgs false in
set_option maxRecDepth 100000 in
set_option maxHeartbeats 2000000 in
theorem parses_long (s : ByteArray) (k : Int) (h : 300 < s.size) (w : World) (hG : Gl w) :
    Calls Tryd.prog 3 #[.string s, .int .i64 k] w fun e w' => e = .returned (.bool true) ∧ Below w.heap.size w w' := by
  have e1 : decide ((300 : Int) < (s.size : Int)) = true := decide_eq_true (by omega)
  have e2 : decide (300 < s.size) = true := decide_eq_true h
  go_enter Tryd.func3, Tryd.ntmps3
  go_wp2_with fail
  refine (awake_any _ hG).mono ?_
  rintro e w1 ⟨rfl, hW⟩
  go_wp2_with fail
  refine (awake_any _ (hG.up hW)).mono ?_
  rintro e w2 ⟨rfl, b2⟩
  go_wp2_with fail
  go_ret
  exact ⟨rfl, hW.trans (b2.mono hW.size)⟩
set_option linter.unusedSimpArgs false in
set_option maxRecDepth 100000 in
set_option maxHeartbeats 4000000 in
theorem parses_main (s : ByteArray) (k : Int) (h : s.size ≤ 300) (w : World) (hG : Gl w) :
    Calls Tryd.prog 3 #[.string s, .int .i64 k] w fun e w' => e = .returned (.bool true) ∧ Below w.heap.size w w' := by
  have e1 : decide ((300 : Int) < (s.size : Int)) = false := decide_eq_false (by omega)
  have e2 : decide (300 < s.size) = false := decide_eq_false (by omega)
  go_enter Tryd.func3, Tryd.ntmps3
  go_wp2_with fail
  refine (awake_any _ hG).mono ?_
  rintro e w1 ⟨rfl, hW⟩
  have hpa := parse_any s k w1 (by omega) (hG.up hW)
  have hpb := rparse_any s k
  obtain ⟨T, J, E, hp⟩ : ∃ T J E, prs s.data.toList k = (T, J, E) := ⟨_, _, _, rfl⟩
  rw [hp] at hpa hpb
  clear hp
  go_wp2_with fail
  refine hpa.mono ?_
  clear hpa
  rintro e w2 ⟨rfl, b2⟩
  replace hW := hW.trans (b2.mono hW.size)
  clear b2
  have hA := Blk.new w2 (oc T) 25 _ rfl
  replace hW := hW.alloc hW.size (.cells (oc T) 25)
  unfold prV
  go_wp2_with fail
  refine (hpb _ (by omega)).mono ?_
  clear hpb
  rintro e w3 ⟨rfl, b3⟩
  replace hW := hW.trans (b3.mono hW.size)
  replace hA := hA.below b3 hA.lt
  clear b3
  obtain ⟨a0, a1, a2, a3⟩ := oblk_cells hA
  have hlA := hA.lt
  have hq := fun w => (oset_eql T T w).trans (by rw [decide_eq_true rfl])
  unfold prV
  go_wp2_with fail
  go_ret
  exact ⟨rfl, hW.alloc hW.size _⟩
theorem parses_any (s : ByteArray) (_ : s.size ≤ maxLen) (k : Int) (w : World) (hG : Gl w) :
    Calls Tryd.prog 3 #[.string s, .int .i64 k] w fun e w' => e = .returned (.bool true) ∧ Below w.heap.size w w' := by
  by_cases h : 300 < s.size
  · exact parses_long s k h w hG
  · exact parses_main s k (by omega) w hG
end Go.Proofs.YtehikndlcepkgaaDoor
