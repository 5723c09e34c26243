/- The statement BracketBehind, walked. -/
import Derived.Test.YtehikndlcepkgaaDoorBrAwake
import Derived.Test.YtehikndlcepkgaaDoorBrHold
import Derived.Test.YtehikndlcepkgaaDoorBrShift
namespace Go.Proofs.YtehikndlcepkgaaDoor
open Go.RowKit

set_option linter.unusedSimpArgs false in
set_option maxRecDepth 100000 in
set_option maxHeartbeats 2000000 in
theorem behind_p (p s x : ByteArray) (h1 : 100 < p.size) (w : World) (hG : Gl w) :
    Calls Tryd.prog 5 #[.string p, .string s, .string x] w fun e w' => e = .returned (.bool true) ∧ Below w.heap.size w w' := by
  have e1 : decide ((100 : Int) < (p.size : Int)) = true := decide_eq_true (by omega)
  have f1 : decide (100 < p.size) = true := decide_eq_true (by omega)
  go_enter Tryd.func5, Tryd.ntmps5
  go_wp2_with fail
  refine (awake_any _ hG).mono ?_
  rintro e w1 ⟨rfl, hW⟩
  go_wp2_with fail
  refine (awake_any _ (hG.up hW)).mono ?_
  rintro e w2 ⟨rfl, b2⟩
  go_wp2_with fail
  go_ret
  exact ⟨rfl, hW.trans (b2.mono hW.size)⟩
set_option linter.unusedSimpArgs false in
set_option maxRecDepth 100000 in
set_option maxHeartbeats 2000000 in
theorem behind_s (p s x : ByteArray) (h1 : p.size ≤ 100) (h2 : 200 < s.size) (w : World) (hG : Gl w) :
    Calls Tryd.prog 5 #[.string p, .string s, .string x] w fun e w' => e = .returned (.bool true) ∧ Below w.heap.size w w' := by
  have e1 : decide ((100 : Int) < (p.size : Int)) = false := decide_eq_false (by omega)
  have f1 : decide (100 < p.size) = false := decide_eq_false (by omega)
  have e2 : decide ((200 : Int) < (s.size : Int)) = true := decide_eq_true (by omega)
  have f2 : decide (200 < s.size) = true := decide_eq_true (by omega)
  go_enter Tryd.func5, Tryd.ntmps5
  go_wp2_with fail
  refine (awake_any _ hG).mono ?_
  rintro e w1 ⟨rfl, hW⟩
  go_wp2_with fail
  refine (awake_any _ (hG.up hW)).mono ?_
  rintro e w2 ⟨rfl, b2⟩
  go_wp2_with fail
  go_ret
  exact ⟨rfl, hW.trans (b2.mono hW.size)⟩
set_option linter.unusedSimpArgs false in
set_option maxRecDepth 100000 in
set_option maxHeartbeats 2000000 in
theorem behind_x (p s x : ByteArray) (h1 : p.size ≤ 100) (h2 : s.size ≤ 200) (h3 : 100 < x.size) (w : World) (hG : Gl w) :
    Calls Tryd.prog 5 #[.string p, .string s, .string x] w fun e w' => e = .returned (.bool true) ∧ Below w.heap.size w w' := by
  have e1 : decide ((100 : Int) < (p.size : Int)) = false := decide_eq_false (by omega)
  have f1 : decide (100 < p.size) = false := decide_eq_false (by omega)
  have e2 : decide ((200 : Int) < (s.size : Int)) = false := decide_eq_false (by omega)
  have f2 : decide (200 < s.size) = false := decide_eq_false (by omega)
  have e3 : decide ((100 : Int) < (x.size : Int)) = true := decide_eq_true (by omega)
  have f3 : decide (100 < x.size) = true := decide_eq_true (by omega)
  go_enter Tryd.func5, Tryd.ntmps5
  go_wp2_with fail
  refine (awake_any _ hG).mono ?_
  rintro e w1 ⟨rfl, hW⟩
  go_wp2_with fail
  refine (awake_any _ (hG.up hW)).mono ?_
  rintro e w2 ⟨rfl, b2⟩
  go_wp2_with fail
  go_ret
  exact ⟨rfl, hW.trans (b2.mono hW.size)⟩
set_option linter.unusedSimpArgs false in
set_option maxRecDepth 100000 in
set_option maxHeartbeats 4000000 in
theorem behind_main (p s x : ByteArray) (h1 : p.size ≤ 100) (h2 : s.size ≤ 200) (h3 : x.size ≤ 100) (w : World) (hG : Gl w) :
    Calls Tryd.prog 5 #[.string p, .string s, .string x] w fun e w' => e = .returned (.bool true) ∧ Below w.heap.size w w' := by
  have e1 : decide ((100 : Int) < (p.size : Int)) = false := decide_eq_false (by omega)
  have f1 : decide (100 < p.size) = false := decide_eq_false (by omega)
  have e2 : decide ((200 : Int) < (s.size : Int)) = false := decide_eq_false (by omega)
  have f2 : decide (200 < s.size) = false := decide_eq_false (by omega)
  have e3 : decide ((100 : Int) < (x.size : Int)) = false := decide_eq_false (by omega)
  have f3 : decide (100 < x.size) = false := decide_eq_false (by omega)
  go_enter Tryd.func5, Tryd.ntmps5
  go_wp2_with fail
  refine (awake_any _ hG).mono ?_
  rintro e w1 ⟨rfl, hW⟩
  have hG1 := hG.up hW
  obtain ⟨t, j, er, hp1, hcs⟩ := prs_behind p.data.toList s.data.toList x.data.toList
  rw [plist_size, plist_size] at hcs
  have hpa := parse_any s 0 w1 (by omega) hG1
  rw [hp1] at hpa
  go_wp2_with fail
  refine hpa.mono ?_
  clear hpa hp1 hG1
  rintro e w2 ⟨rfl, b2⟩
  replace hW := hW.trans (b2.mono hW.size)
  clear b2
  have hG2 := (hG.up hW).up ((Below.refl w2.heap.size w2).alloc (Nat.le_refl _) (.cells (oc t) 25))
  have hA := Blk.new w2 (oc t) 25 _ rfl
  replace hW := hW.alloc hW.size (.cells (oc t) 25)
  unfold prV
  rcases hcs with hne | ⟨rfl, hj, hp2⟩
  · have r2 : ((er : Int) != 0) = true := by simp; omega
    go_wp2_with fail
    go_ret
    exact ⟨rfl, hW⟩
  · have hl2 : (p ++ s ++ x).data.toList = p.data.toList ++ s.data.toList ++ x.data.toList := by simp [ByteArray.data_append]
    have hz2 : (p ++ s ++ x).size ≤ 1000000 := by
      rw [← plist_size, hl2, List.length_append, List.length_append, plist_size, plist_size, plist_size]; omega
    have hpb := parse_any (p ++ s ++ x) (p.size : Int) _ hz2 hG2
    rw [hl2, hp2] at hpb
    have Wj : IntKind.i64.wrap ((j : Int) + (p.size : Int)) = ((j + p.size : Nat) : Int) := by
      rw [IntWalk.i64_in _ (by omega)]
      omega
    clear hl2 hz2 hG2
    go_wp2_with fail
    refine hpb.mono ?_
    clear hpb hp2
    rintro e w3 ⟨rfl, b3⟩
    replace hW := hW.trans (b3.mono hW.size)
    replace hA := hA.below b3 hA.lt
    clear b3
    obtain ⟨a0, a1, a2, a3⟩ := oblk_cells hA
    have hlA := hA.lt
    have hq := fun w => (oset_eql t t w).trans (by rw [decide_eq_true rfl])
    unfold prV
    go_wp2_with fail
    go_ret
    exact ⟨rfl, hW.alloc hW.size _⟩
theorem behind_any (p : ByteArray) (_ : p.size ≤ maxLen) (s : ByteArray) (_ : s.size ≤ maxLen) (x : ByteArray) (_ : x.size ≤ maxLen) (w : World) (hG : Gl w) :
    Calls Tryd.prog 5 #[.string p, .string s, .string x] w fun e w' => e = .returned (.bool true) ∧ Below w.heap.size w w' := by
  by_cases h1 : 100 < p.size
  · exact behind_p p s x h1 w hG
  · by_cases h2 : 200 < s.size
    · exact behind_s p s x (by omega) h2 w hG
    · by_cases h3 : 100 < x.size
      · exact behind_x p s x (by omega) (by omega) h3 w hG
      · exact behind_main p s x (by omega) (by omega) (by omega) w hG
end Go.Proofs.YtehikndlcepkgaaDoor
