/- Package regex: a class that there is; a byte behind a backslash. -/
import Derived.Test.YtbbcjclkklmoaaaDoorRxAB
import Derived.Test.YtbbcjclkklmoaaaDoorOctClass
import Derived.Test.YtbbcjclkklmoaaaDoorBrProgBC
namespace Go.Proofs.YtbbcjclkklmoaaaDoor
open Go Go.RowKit

set_option linter.unusedSimpArgs false in
set_option maxRecDepth 100000 in
set_option maxHeartbeats 2000000 in
theorem xclass_any (s : ByteArray) (w : World) :
    Calls Tryd.prog 97 #[.string s] w fun e w' => e = .returned (.agg #[.int .u64 (ow (clsSet s.data.toList) 0), .int .u64 (ow (clsSet s.data.toList) 1), .int .u64 (ow (clsSet s.data.toList) 2), .int .u64 (ow (clsSet s.data.toList) 3)]) ∧ Below w.heap.size w w' := by
  have hB0 := (Below.refl w.heap.size w).alloc (Nat.le_refl _) (.cells #[.int .u64 0, .int .u64 0, .int .u64 0, .int .u64 0] 57)
  have hP0 := Blk.new w #[.int .u64 0, .int .u64 0, .int .u64 0, .int .u64 0] 57 w.heap.size rfl
  have hc := class_any s (w.alloc (.cells #[.int .u64 0, .int .u64 0, .int .u64 0, .int .u64 0] 57))
  rw [ByteArray.toList_eq] at hc
  generalize clsSet s.data.toList = t at hc ⊢
  generalize clsOk s.data.toList = ok at hc
  go_enter Tryd.func97, Tryd.ntmps97
  go_wp2_with fail
  refine hc.mono ?_
  rintro e w1 ⟨rfl, b1⟩
  have hP1 := hP0.below b1 hP0.lt
  have hB1 := hB0.trans (b1.mono hB0.size)
  have p0 := (hP1.cell 0).trans rfl
  have p1 := (hP1.cell 1).trans rfl
  have p2 := (hP1.cell 2).trans rfl
  have p3 := (hP1.cell 3).trans rfl
  have z0 := hP1.frozen 0
  have z1 := hP1.frozen 1
  have z2 := hP1.frozen 2
  have z3 := hP1.frozen 3
  have hl := hP1.lt
  clear hc hP0 hB0 b1
  have g := ((((hP1.set 0 (.int .u64 (ow t 0))).set 1 (.int .u64 (ow t 1))).set 2 (.int .u64 (ow t 2))).set 3 (.int .u64 (ow t 3))).alloc (.cells #[.int .u64 (ow t 0), .int .u64 (ow t 1), .int .u64 (ow t 2), .int .u64 (ow t 3)] 57)
  have hBn := ((((hB1.setCell (p := ⟨w.heap.size, 0, none⟩) (Nat.le_refl _) (.int .u64 (ow t 0))).setCell (p := ⟨w.heap.size, 1, none⟩) (Nat.le_refl _) (.int .u64 (ow t 1))).setCell (p := ⟨w.heap.size, 2, none⟩) (Nat.le_refl _) (.int .u64 (ow t 2))).setCell (p := ⟨w.heap.size, 3, none⟩) (Nat.le_refl _) (.int .u64 (ow t 3))).alloc (by simp [World.setCell]; omega) (.cells #[.int .u64 (ow t 0), .int .u64 (ow t 1), .int .u64 (ow t 2), .int .u64 (ow t 3)] 57)
  have HG := Lib.hid g
  have HBn := Lib.hid hBn
  clear g hBn
  go_wp2_with fail
  have g := HG.out
  have hBn := HBn.out
  clear HG HBn p0 p1 p2 p3 z0 z1 z2 z3 hP1
  generalize ((((w1.setCell _ _).setCell _ _).setCell _ _).setCell _ _).alloc _ = w9 at g hBn ⊢
  have d0 := (g.cell 0).trans rfl
  have d1 := (g.cell 1).trans rfl
  have d2 := (g.cell 2).trans rfl
  have d3 := (g.cell 3).trans rfl
  exact bodyPost_ret (v := .agg #[.int .u64 (ow t 0), .int .u64 (ow t 1), .int .u64 (ow t 2), .int .u64 (ow t 3)]) (by simp [results, Tryd.results97, go_sem, d0, d1, d2, d3]) rfl ⟨rfl, hBn⟩
set_option linter.unusedSimpArgs false in
set_option maxRecDepth 100000 in
set_option maxHeartbeats 4000000 in
theorem esc_110 (w : World) : Calls Tryd.prog 86 #[.int .u8 110] w fun e w' => e = .returned (.tuple #[.agg #[.int .u64 (ow (oSpan 10 10) 0), .int .u64 (ow (oSpan 10 10) 1), .int .u64 (ow (oSpan 10 10) 2), .int .u64 (ow (oSpan 10 10) 3)], .bool false, .bool true]) ∧ Below w.heap.size w w' := by
  have hB0 := (Below.refl w.heap.size w).alloc (Nat.le_refl _) (.cells #[.int .u64 0, .int .u64 0, .int .u64 0, .int .u64 0] 57); have hP0 := Blk.new w #[.int .u64 0, .int .u64 0, .int .u64 0, .int .u64 0] 57 w.heap.size rfl; go_enter Tryd.func86, Tryd.ntmps86; go_wp2_with fail; refine (xclass_any _ _).mono ?_; rintro e w1 ⟨rfl, b1⟩; replace hP0 := hP0.below b1 hP0.lt; replace hB0 := hB0.trans (b1.mono hB0.size); clear b1; go_wp2_with fail; refine (of_one 95 (by decide) (by decide) _ _ (by simp)).mono ?_; rintro e w2 ⟨rfl, b2⟩; replace hP0 := hP0.below b2 hP0.lt; replace hB0 := hB0.trans (b2.mono hB0.size); clear b2; go_wp2_with fail; refine (or_any _ _ _).mono ?_; rintro e w3 ⟨rfl, b3⟩; replace hP0 := hP0.below b3 hP0.lt; replace hB0 := hB0.trans (b3.mono hB0.size); clear b3
  generalize clsSet (ByteArray.mk #[97, 108, 110, 117, 109]).data.toList ||| ofl [95] = t
  go_wp2_with fail
  refine (of_one 10 (by decide) (by decide) _ _ (by simp)).mono ?_
  rintro e w4 ⟨rfl, b4⟩
  replace hP0 := (hP0.alloc (.cells #[.int .u64 (ow t 0), .int .u64 (ow t 1), .int .u64 (ow t 2), .int .u64 (ow t 3)] 57)).below b4 (by have := hP0.lt; simp; omega); replace hB0 := (hB0.alloc hB0.size (.cells #[.int .u64 (ow t 0), .int .u64 (ow t 1), .int .u64 (ow t 2), .int .u64 (ow t 3)] 57)).trans (b4.mono (by have := hB0.size; simp; omega)); clear b4
  rw [show ofl [(10 : Int)] = oSpan 10 10 from ofl_one 10]
  have g := (((hP0.set 0 (.int .u64 (ow (oSpan 10 10) 0))).set 1 (.int .u64 (ow (oSpan 10 10) 1))).set 2 (.int .u64 (ow (oSpan 10 10) 2))).set 3 (.int .u64 (ow (oSpan 10 10) 3)); have hBn := (((hB0.setCell (p := ⟨w.heap.size, 0, none⟩) (Nat.le_refl _) (.int .u64 (ow (oSpan 10 10) 0))).setCell (p := ⟨w.heap.size, 1, none⟩) (Nat.le_refl _) (.int .u64 (ow (oSpan 10 10) 1))).setCell (p := ⟨w.heap.size, 2, none⟩) (Nat.le_refl _) (.int .u64 (ow (oSpan 10 10) 2))).setCell (p := ⟨w.heap.size, 3, none⟩) (Nat.le_refl _) (.int .u64 (ow (oSpan 10 10) 3)); have p0 := (hP0.cell 0).trans rfl; have p1 := (hP0.cell 1).trans rfl; have p2 := (hP0.cell 2).trans rfl; have p3 := (hP0.cell 3).trans rfl; have z0 := hP0.frozen 0; have z1 := hP0.frozen 1; have z2 := hP0.frozen 2; have z3 := hP0.frozen 3; have hl := hP0.lt; have HG := Lib.hid g; have HBn := Lib.hid hBn; clear g hBn hP0 hB0; go_wp2_with fail; have g := HG.out; have hBn := HBn.out; clear HG HBn p0 p1 p2 p3 z0 z1 z2 z3; generalize (((World.setCell _ _ _).setCell _ _).setCell _ _).setCell _ _ = w9 at g hBn ⊢; have d0 := (g.cell 0).trans rfl; have d1 := (g.cell 1).trans rfl; have d2 := (g.cell 2).trans rfl; have d3 := (g.cell 3).trans rfl; exact bodyPost_ret (v := .tuple #[.agg #[.int .u64 (ow (oSpan 10 10) 0), .int .u64 (ow (oSpan 10 10) 1), .int .u64 (ow (oSpan 10 10) 2), .int .u64 (ow (oSpan 10 10) 3)], .bool false, .bool true]) (by simp [results, Tryd.results86, go_sem, d0, d1, d2, d3]) rfl ⟨rfl, hBn⟩
set_option linter.unusedSimpArgs false in
set_option maxRecDepth 100000 in
set_option maxHeartbeats 4000000 in
theorem esc_116 (w : World) : Calls Tryd.prog 86 #[.int .u8 116] w fun e w' => e = .returned (.tuple #[.agg #[.int .u64 (ow (oSpan 9 9) 0), .int .u64 (ow (oSpan 9 9) 1), .int .u64 (ow (oSpan 9 9) 2), .int .u64 (ow (oSpan 9 9) 3)], .bool true, .bool true]) ∧ Below w.heap.size w w' := by
  have hB0 := (Below.refl w.heap.size w).alloc (Nat.le_refl _) (.cells #[.int .u64 0, .int .u64 0, .int .u64 0, .int .u64 0] 57); have hP0 := Blk.new w #[.int .u64 0, .int .u64 0, .int .u64 0, .int .u64 0] 57 w.heap.size rfl; go_enter Tryd.func86, Tryd.ntmps86; go_wp2_with fail; refine (xclass_any _ _).mono ?_; rintro e w1 ⟨rfl, b1⟩; replace hP0 := hP0.below b1 hP0.lt; replace hB0 := hB0.trans (b1.mono hB0.size); clear b1; go_wp2_with fail; refine (of_one 95 (by decide) (by decide) _ _ (by simp)).mono ?_; rintro e w2 ⟨rfl, b2⟩; replace hP0 := hP0.below b2 hP0.lt; replace hB0 := hB0.trans (b2.mono hB0.size); clear b2; go_wp2_with fail; refine (or_any _ _ _).mono ?_; rintro e w3 ⟨rfl, b3⟩; replace hP0 := hP0.below b3 hP0.lt; replace hB0 := hB0.trans (b3.mono hB0.size); clear b3
  generalize clsSet (ByteArray.mk #[97, 108, 110, 117, 109]).data.toList ||| ofl [95] = t
  go_wp2_with fail
  refine (of_one 9 (by decide) (by decide) _ _ (by simp)).mono ?_
  rintro e w4 ⟨rfl, b4⟩
  replace hP0 := (hP0.alloc (.cells #[.int .u64 (ow t 0), .int .u64 (ow t 1), .int .u64 (ow t 2), .int .u64 (ow t 3)] 57)).below b4 (by have := hP0.lt; simp; omega); replace hB0 := (hB0.alloc hB0.size (.cells #[.int .u64 (ow t 0), .int .u64 (ow t 1), .int .u64 (ow t 2), .int .u64 (ow t 3)] 57)).trans (b4.mono (by have := hB0.size; simp; omega)); clear b4
  rw [show ofl [(9 : Int)] = oSpan 9 9 from ofl_one 9]
  have g := (((hP0.set 0 (.int .u64 (ow (oSpan 9 9) 0))).set 1 (.int .u64 (ow (oSpan 9 9) 1))).set 2 (.int .u64 (ow (oSpan 9 9) 2))).set 3 (.int .u64 (ow (oSpan 9 9) 3)); have hBn := (((hB0.setCell (p := ⟨w.heap.size, 0, none⟩) (Nat.le_refl _) (.int .u64 (ow (oSpan 9 9) 0))).setCell (p := ⟨w.heap.size, 1, none⟩) (Nat.le_refl _) (.int .u64 (ow (oSpan 9 9) 1))).setCell (p := ⟨w.heap.size, 2, none⟩) (Nat.le_refl _) (.int .u64 (ow (oSpan 9 9) 2))).setCell (p := ⟨w.heap.size, 3, none⟩) (Nat.le_refl _) (.int .u64 (ow (oSpan 9 9) 3)); have p0 := (hP0.cell 0).trans rfl; have p1 := (hP0.cell 1).trans rfl; have p2 := (hP0.cell 2).trans rfl; have p3 := (hP0.cell 3).trans rfl; have z0 := hP0.frozen 0; have z1 := hP0.frozen 1; have z2 := hP0.frozen 2; have z3 := hP0.frozen 3; have hl := hP0.lt; have HG := Lib.hid g; have HBn := Lib.hid hBn; clear g hBn hP0 hB0; go_wp2_with fail; have g := HG.out; have hBn := HBn.out; clear HG HBn p0 p1 p2 p3 z0 z1 z2 z3; generalize (((World.setCell _ _ _).setCell _ _).setCell _ _).setCell _ _ = w9 at g hBn ⊢; have d0 := (g.cell 0).trans rfl; have d1 := (g.cell 1).trans rfl; have d2 := (g.cell 2).trans rfl; have d3 := (g.cell 3).trans rfl; exact bodyPost_ret (v := .tuple #[.agg #[.int .u64 (ow (oSpan 9 9) 0), .int .u64 (ow (oSpan 9 9) 1), .int .u64 (ow (oSpan 9 9) 2), .int .u64 (ow (oSpan 9 9) 3)], .bool true, .bool true]) (by simp [results, Tryd.results86, go_sem, d0, d1, d2, d3]) rfl ⟨rfl, hBn⟩
set_option linter.unusedSimpArgs false in
set_option maxRecDepth 100000 in
set_option maxHeartbeats 4000000 in
theorem esc_119 (w : World) : Calls Tryd.prog 86 #[.int .u8 119] w fun e w' => e = .returned (.tuple #[.agg #[.int .u64 (ow wordSet 0), .int .u64 (ow wordSet 1), .int .u64 (ow wordSet 2), .int .u64 (ow wordSet 3)], .bool true, .bool true]) ∧ Below w.heap.size w w' := by
  have hB0 := (Below.refl w.heap.size w).alloc (Nat.le_refl _) (.cells #[.int .u64 0, .int .u64 0, .int .u64 0, .int .u64 0] 57); have hP0 := Blk.new w #[.int .u64 0, .int .u64 0, .int .u64 0, .int .u64 0] 57 w.heap.size rfl; go_enter Tryd.func86, Tryd.ntmps86; go_wp2_with fail; refine (xclass_any _ _).mono ?_; rintro e w1 ⟨rfl, b1⟩; replace hP0 := hP0.below b1 hP0.lt; replace hB0 := hB0.trans (b1.mono hB0.size); clear b1; go_wp2_with fail; refine (of_one 95 (by decide) (by decide) _ _ (by simp)).mono ?_; rintro e w2 ⟨rfl, b2⟩; replace hP0 := hP0.below b2 hP0.lt; replace hB0 := hB0.trans (b2.mono hB0.size); clear b2; go_wp2_with fail; refine (or_any _ _ _).mono ?_; rintro e w3 ⟨rfl, b3⟩; replace hP0 := hP0.below b3 hP0.lt; replace hB0 := hB0.trans (b3.mono hB0.size); clear b3
  have hws : clsSet (ByteArray.mk #[97, 108, 110, 117, 109]).data.toList ||| ofl [95] = wordSet := by unfold wordSet; rw [show ofl [(95 : Int)] = oSpan 95 95 from ofl_one 95]
  rw [hws]
  clear hws
  have hP0 := hP0.alloc (.cells #[.int .u64 (ow wordSet 0), .int .u64 (ow wordSet 1), .int .u64 (ow wordSet 2), .int .u64 (ow wordSet 3)] 57)
  have hB0 := hB0.alloc hB0.size (.cells #[.int .u64 (ow wordSet 0), .int .u64 (ow wordSet 1), .int .u64 (ow wordSet 2), .int .u64 (ow wordSet 3)] 57)
  have g := (((hP0.set 0 (.int .u64 (ow wordSet 0))).set 1 (.int .u64 (ow wordSet 1))).set 2 (.int .u64 (ow wordSet 2))).set 3 (.int .u64 (ow wordSet 3)); have hBn := (((hB0.setCell (p := ⟨w.heap.size, 0, none⟩) (Nat.le_refl _) (.int .u64 (ow wordSet 0))).setCell (p := ⟨w.heap.size, 1, none⟩) (Nat.le_refl _) (.int .u64 (ow wordSet 1))).setCell (p := ⟨w.heap.size, 2, none⟩) (Nat.le_refl _) (.int .u64 (ow wordSet 2))).setCell (p := ⟨w.heap.size, 3, none⟩) (Nat.le_refl _) (.int .u64 (ow wordSet 3)); have p0 := (hP0.cell 0).trans rfl; have p1 := (hP0.cell 1).trans rfl; have p2 := (hP0.cell 2).trans rfl; have p3 := (hP0.cell 3).trans rfl; have z0 := hP0.frozen 0; have z1 := hP0.frozen 1; have z2 := hP0.frozen 2; have z3 := hP0.frozen 3; have hl := hP0.lt; have HG := Lib.hid g; have HBn := Lib.hid hBn; clear g hBn hP0 hB0; go_wp2_with fail; have g := HG.out; have hBn := HBn.out; clear HG HBn p0 p1 p2 p3 z0 z1 z2 z3; generalize (((World.setCell _ _ _).setCell _ _).setCell _ _).setCell _ _ = w9 at g hBn ⊢; have d0 := (g.cell 0).trans rfl; have d1 := (g.cell 1).trans rfl; have d2 := (g.cell 2).trans rfl; have d3 := (g.cell 3).trans rfl; exact bodyPost_ret (v := .tuple #[.agg #[.int .u64 (ow wordSet 0), .int .u64 (ow wordSet 1), .int .u64 (ow wordSet 2), .int .u64 (ow wordSet 3)], .bool true, .bool true]) (by simp [results, Tryd.results86, go_sem, d0, d1, d2, d3]) rfl ⟨rfl, hBn⟩
set_option linter.unusedSimpArgs false in
set_option maxRecDepth 100000 in
set_option maxHeartbeats 4000000 in
theorem esc_87 (w : World) : Calls Tryd.prog 86 #[.int .u8 87] w fun e w' => e = .returned (.tuple #[.agg #[.int .u64 (ow (~~~wordSet) 0), .int .u64 (ow (~~~wordSet) 1), .int .u64 (ow (~~~wordSet) 2), .int .u64 (ow (~~~wordSet) 3)], .bool true, .bool true]) ∧ Below w.heap.size w w' := by
  have hB0 := (Below.refl w.heap.size w).alloc (Nat.le_refl _) (.cells #[.int .u64 0, .int .u64 0, .int .u64 0, .int .u64 0] 57); have hP0 := Blk.new w #[.int .u64 0, .int .u64 0, .int .u64 0, .int .u64 0] 57 w.heap.size rfl; go_enter Tryd.func86, Tryd.ntmps86; go_wp2_with fail; refine (xclass_any _ _).mono ?_; rintro e w1 ⟨rfl, b1⟩; replace hP0 := hP0.below b1 hP0.lt; replace hB0 := hB0.trans (b1.mono hB0.size); clear b1; go_wp2_with fail; refine (of_one 95 (by decide) (by decide) _ _ (by simp)).mono ?_; rintro e w2 ⟨rfl, b2⟩; replace hP0 := hP0.below b2 hP0.lt; replace hB0 := hB0.trans (b2.mono hB0.size); clear b2; go_wp2_with fail; refine (or_any _ _ _).mono ?_; rintro e w3 ⟨rfl, b3⟩; replace hP0 := hP0.below b3 hP0.lt; replace hB0 := hB0.trans (b3.mono hB0.size); clear b3
  have hws : clsSet (ByteArray.mk #[97, 108, 110, 117, 109]).data.toList ||| ofl [95] = wordSet := by unfold wordSet; rw [show ofl [(95 : Int)] = oSpan 95 95 from ofl_one 95]
  rw [hws]
  clear hws
  go_wp2_with fail
  refine (not_any _ _).mono ?_
  rintro e w4 ⟨rfl, b4⟩
  replace hP0 := (hP0.alloc (.cells #[.int .u64 (ow wordSet 0), .int .u64 (ow wordSet 1), .int .u64 (ow wordSet 2), .int .u64 (ow wordSet 3)] 57)).below b4 (by have := hP0.lt; simp; omega); replace hB0 := (hB0.alloc hB0.size (.cells #[.int .u64 (ow wordSet 0), .int .u64 (ow wordSet 1), .int .u64 (ow wordSet 2), .int .u64 (ow wordSet 3)] 57)).trans (b4.mono (by have := hB0.size; simp; omega)); clear b4
  have g := (((hP0.set 0 (.int .u64 (ow (~~~wordSet) 0))).set 1 (.int .u64 (ow (~~~wordSet) 1))).set 2 (.int .u64 (ow (~~~wordSet) 2))).set 3 (.int .u64 (ow (~~~wordSet) 3)); have hBn := (((hB0.setCell (p := ⟨w.heap.size, 0, none⟩) (Nat.le_refl _) (.int .u64 (ow (~~~wordSet) 0))).setCell (p := ⟨w.heap.size, 1, none⟩) (Nat.le_refl _) (.int .u64 (ow (~~~wordSet) 1))).setCell (p := ⟨w.heap.size, 2, none⟩) (Nat.le_refl _) (.int .u64 (ow (~~~wordSet) 2))).setCell (p := ⟨w.heap.size, 3, none⟩) (Nat.le_refl _) (.int .u64 (ow (~~~wordSet) 3)); have p0 := (hP0.cell 0).trans rfl; have p1 := (hP0.cell 1).trans rfl; have p2 := (hP0.cell 2).trans rfl; have p3 := (hP0.cell 3).trans rfl; have z0 := hP0.frozen 0; have z1 := hP0.frozen 1; have z2 := hP0.frozen 2; have z3 := hP0.frozen 3; have hl := hP0.lt; have HG := Lib.hid g; have HBn := Lib.hid hBn; clear g hBn hP0 hB0; go_wp2_with fail; have g := HG.out; have hBn := HBn.out; clear HG HBn p0 p1 p2 p3 z0 z1 z2 z3; generalize (((World.setCell _ _ _).setCell _ _).setCell _ _).setCell _ _ = w9 at g hBn ⊢; have d0 := (g.cell 0).trans rfl; have d1 := (g.cell 1).trans rfl; have d2 := (g.cell 2).trans rfl; have d3 := (g.cell 3).trans rfl; exact bodyPost_ret (v := .tuple #[.agg #[.int .u64 (ow (~~~wordSet) 0), .int .u64 (ow (~~~wordSet) 1), .int .u64 (ow (~~~wordSet) 2), .int .u64 (ow (~~~wordSet) 3)], .bool true, .bool true]) (by simp [results, Tryd.results86, go_sem, d0, d1, d2, d3]) rfl ⟨rfl, hBn⟩
set_option linter.unusedSimpArgs false in
set_option maxRecDepth 100000 in
set_option maxHeartbeats 4000000 in
theorem esc_115 (w : World) : Calls Tryd.prog 86 #[.int .u8 115] w fun e w' => e = .returned (.tuple #[.agg #[.int .u64 (ow spaceSet 0), .int .u64 (ow spaceSet 1), .int .u64 (ow spaceSet 2), .int .u64 (ow spaceSet 3)], .bool true, .bool true]) ∧ Below w.heap.size w w' := by
  have hB0 := (Below.refl w.heap.size w).alloc (Nat.le_refl _) (.cells #[.int .u64 0, .int .u64 0, .int .u64 0, .int .u64 0] 57); have hP0 := Blk.new w #[.int .u64 0, .int .u64 0, .int .u64 0, .int .u64 0] 57 w.heap.size rfl; go_enter Tryd.func86, Tryd.ntmps86; go_wp2_with fail; refine (xclass_any _ _).mono ?_; rintro e w1 ⟨rfl, b1⟩; replace hP0 := hP0.below b1 hP0.lt; replace hB0 := hB0.trans (b1.mono hB0.size); clear b1; go_wp2_with fail; refine (of_one 95 (by decide) (by decide) _ _ (by simp)).mono ?_; rintro e w2 ⟨rfl, b2⟩; replace hP0 := hP0.below b2 hP0.lt; replace hB0 := hB0.trans (b2.mono hB0.size); clear b2; go_wp2_with fail; refine (or_any _ _ _).mono ?_; rintro e w3 ⟨rfl, b3⟩; replace hP0 := hP0.below b3 hP0.lt; replace hB0 := hB0.trans (b3.mono hB0.size); clear b3
  generalize clsSet (ByteArray.mk #[97, 108, 110, 117, 109]).data.toList ||| ofl [95] = t
  go_wp2_with fail
  refine (xclass_any _ _).mono ?_
  rintro e w4 ⟨rfl, b4⟩
  replace hP0 := (hP0.alloc (.cells #[.int .u64 (ow t 0), .int .u64 (ow t 1), .int .u64 (ow t 2), .int .u64 (ow t 3)] 57)).below b4 (by have := hP0.lt; simp; omega); replace hB0 := (hB0.alloc hB0.size (.cells #[.int .u64 (ow t 0), .int .u64 (ow t 1), .int .u64 (ow t 2), .int .u64 (ow t 3)] 57)).trans (b4.mono (by have := hB0.size; simp; omega)); clear b4
  rw [show clsSet (ByteArray.mk #[115, 112, 97, 99, 101]).data.toList = spaceSet from rfl]
  have g := (((hP0.set 0 (.int .u64 (ow spaceSet 0))).set 1 (.int .u64 (ow spaceSet 1))).set 2 (.int .u64 (ow spaceSet 2))).set 3 (.int .u64 (ow spaceSet 3)); have hBn := (((hB0.setCell (p := ⟨w.heap.size, 0, none⟩) (Nat.le_refl _) (.int .u64 (ow spaceSet 0))).setCell (p := ⟨w.heap.size, 1, none⟩) (Nat.le_refl _) (.int .u64 (ow spaceSet 1))).setCell (p := ⟨w.heap.size, 2, none⟩) (Nat.le_refl _) (.int .u64 (ow spaceSet 2))).setCell (p := ⟨w.heap.size, 3, none⟩) (Nat.le_refl _) (.int .u64 (ow spaceSet 3)); have p0 := (hP0.cell 0).trans rfl; have p1 := (hP0.cell 1).trans rfl; have p2 := (hP0.cell 2).trans rfl; have p3 := (hP0.cell 3).trans rfl; have z0 := hP0.frozen 0; have z1 := hP0.frozen 1; have z2 := hP0.frozen 2; have z3 := hP0.frozen 3; have hl := hP0.lt; have HG := Lib.hid g; have HBn := Lib.hid hBn; clear g hBn hP0 hB0; go_wp2_with fail; have g := HG.out; have hBn := HBn.out; clear HG HBn p0 p1 p2 p3 z0 z1 z2 z3; generalize (((World.setCell _ _ _).setCell _ _).setCell _ _).setCell _ _ = w9 at g hBn ⊢; have d0 := (g.cell 0).trans rfl; have d1 := (g.cell 1).trans rfl; have d2 := (g.cell 2).trans rfl; have d3 := (g.cell 3).trans rfl; exact bodyPost_ret (v := .tuple #[.agg #[.int .u64 (ow spaceSet 0), .int .u64 (ow spaceSet 1), .int .u64 (ow spaceSet 2), .int .u64 (ow spaceSet 3)], .bool true, .bool true]) (by simp [results, Tryd.results86, go_sem, d0, d1, d2, d3]) rfl ⟨rfl, hBn⟩
set_option linter.unusedSimpArgs false in
set_option maxRecDepth 100000 in
set_option maxHeartbeats 4000000 in
theorem esc_83 (w : World) : Calls Tryd.prog 86 #[.int .u8 83] w fun e w' => e = .returned (.tuple #[.agg #[.int .u64 (ow (~~~spaceSet) 0), .int .u64 (ow (~~~spaceSet) 1), .int .u64 (ow (~~~spaceSet) 2), .int .u64 (ow (~~~spaceSet) 3)], .bool true, .bool true]) ∧ Below w.heap.size w w' := by
  have hB0 := (Below.refl w.heap.size w).alloc (Nat.le_refl _) (.cells #[.int .u64 0, .int .u64 0, .int .u64 0, .int .u64 0] 57); have hP0 := Blk.new w #[.int .u64 0, .int .u64 0, .int .u64 0, .int .u64 0] 57 w.heap.size rfl; go_enter Tryd.func86, Tryd.ntmps86; go_wp2_with fail; refine (xclass_any _ _).mono ?_; rintro e w1 ⟨rfl, b1⟩; replace hP0 := hP0.below b1 hP0.lt; replace hB0 := hB0.trans (b1.mono hB0.size); clear b1; go_wp2_with fail; refine (of_one 95 (by decide) (by decide) _ _ (by simp)).mono ?_; rintro e w2 ⟨rfl, b2⟩; replace hP0 := hP0.below b2 hP0.lt; replace hB0 := hB0.trans (b2.mono hB0.size); clear b2; go_wp2_with fail; refine (or_any _ _ _).mono ?_; rintro e w3 ⟨rfl, b3⟩; replace hP0 := hP0.below b3 hP0.lt; replace hB0 := hB0.trans (b3.mono hB0.size); clear b3
  generalize clsSet (ByteArray.mk #[97, 108, 110, 117, 109]).data.toList ||| ofl [95] = t
  go_wp2_with fail
  refine (xclass_any _ _).mono ?_
  rintro e w4 ⟨rfl, b4⟩
  replace hP0 := (hP0.alloc (.cells #[.int .u64 (ow t 0), .int .u64 (ow t 1), .int .u64 (ow t 2), .int .u64 (ow t 3)] 57)).below b4 (by have := hP0.lt; simp; omega); replace hB0 := (hB0.alloc hB0.size (.cells #[.int .u64 (ow t 0), .int .u64 (ow t 1), .int .u64 (ow t 2), .int .u64 (ow t 3)] 57)).trans (b4.mono (by have := hB0.size; simp; omega)); clear b4
  rw [show clsSet (ByteArray.mk #[115, 112, 97, 99, 101]).data.toList = spaceSet from rfl]
  go_wp2_with fail
  refine (not_any _ _).mono ?_
  rintro e w5 ⟨rfl, b5⟩
  replace hP0 := hP0.below b5 hP0.lt; replace hB0 := hB0.trans (b5.mono hB0.size); clear b5
  have g := (((hP0.set 0 (.int .u64 (ow (~~~spaceSet) 0))).set 1 (.int .u64 (ow (~~~spaceSet) 1))).set 2 (.int .u64 (ow (~~~spaceSet) 2))).set 3 (.int .u64 (ow (~~~spaceSet) 3)); have hBn := (((hB0.setCell (p := ⟨w.heap.size, 0, none⟩) (Nat.le_refl _) (.int .u64 (ow (~~~spaceSet) 0))).setCell (p := ⟨w.heap.size, 1, none⟩) (Nat.le_refl _) (.int .u64 (ow (~~~spaceSet) 1))).setCell (p := ⟨w.heap.size, 2, none⟩) (Nat.le_refl _) (.int .u64 (ow (~~~spaceSet) 2))).setCell (p := ⟨w.heap.size, 3, none⟩) (Nat.le_refl _) (.int .u64 (ow (~~~spaceSet) 3)); have p0 := (hP0.cell 0).trans rfl; have p1 := (hP0.cell 1).trans rfl; have p2 := (hP0.cell 2).trans rfl; have p3 := (hP0.cell 3).trans rfl; have z0 := hP0.frozen 0; have z1 := hP0.frozen 1; have z2 := hP0.frozen 2; have z3 := hP0.frozen 3; have hl := hP0.lt; have HG := Lib.hid g; have HBn := Lib.hid hBn; clear g hBn hP0 hB0; go_wp2_with fail; have g := HG.out; have hBn := HBn.out; clear HG HBn p0 p1 p2 p3 z0 z1 z2 z3; generalize (((World.setCell _ _ _).setCell _ _).setCell _ _).setCell _ _ = w9 at g hBn ⊢; have d0 := (g.cell 0).trans rfl; have d1 := (g.cell 1).trans rfl; have d2 := (g.cell 2).trans rfl; have d3 := (g.cell 3).trans rfl; exact bodyPost_ret (v := .tuple #[.agg #[.int .u64 (ow (~~~spaceSet) 0), .int .u64 (ow (~~~spaceSet) 1), .int .u64 (ow (~~~spaceSet) 2), .int .u64 (ow (~~~spaceSet) 3)], .bool true, .bool true]) (by simp [results, Tryd.results86, go_sem, d0, d1, d2, d3]) rfl ⟨rfl, hBn⟩
set_option linter.unusedSimpArgs false in
set_option maxRecDepth 100000 in
set_option maxHeartbeats 4000000 in
theorem esc_yes (c : Nat) (w : World) (hc : c < 256) (h1 : c ≠ 110) (h2 : c ≠ 116) (h3 : c ≠ 119) (h4 : c ≠ 87) (h5 : c ≠ 115) (h6 : c ≠ 83) (hp : ohas punctSet c = true) : Calls Tryd.prog 86 #[.int .u8 (c : Int)] w fun e w' => e = .returned (.tuple #[.agg #[.int .u64 (ow (oSpan c c) 0), .int .u64 (ow (oSpan c c) 1), .int .u64 (ow (oSpan c c) 2), .int .u64 (ow (oSpan c c) 3)], .bool false, .bool true]) ∧ Below w.heap.size w w' := by
  have e110 : ((c : Int) == 110) = false := by simp; omega
  have e116 : ((c : Int) == 116) = false := by simp; omega
  have e119 : ((c : Int) == 119) = false := by simp; omega
  have e87 : ((c : Int) == 87) = false := by simp; omega
  have e115 : ((c : Int) == 115) = false := by simp; omega
  have e83 : ((c : Int) == 83) = false := by simp; omega
  have hc0 : (0 : Int) ≤ (c : Int) := by omega
  have hc1 : (c : Int) ≤ 255 := by omega
  clear h1 h2 h3 h4 h5 h6
  have hB0 := (Below.refl w.heap.size w).alloc (Nat.le_refl _) (.cells #[.int .u64 0, .int .u64 0, .int .u64 0, .int .u64 0] 57); have hP0 := Blk.new w #[.int .u64 0, .int .u64 0, .int .u64 0, .int .u64 0] 57 w.heap.size rfl; go_enter Tryd.func86, Tryd.ntmps86; go_wp2_with fail; refine (xclass_any _ _).mono ?_; rintro e w1 ⟨rfl, b1⟩; replace hP0 := hP0.below b1 hP0.lt; replace hB0 := hB0.trans (b1.mono hB0.size); clear b1; go_wp2_with fail; refine (of_one 95 (by decide) (by decide) _ _ (by simp)).mono ?_; rintro e w2 ⟨rfl, b2⟩; replace hP0 := hP0.below b2 hP0.lt; replace hB0 := hB0.trans (b2.mono hB0.size); clear b2; go_wp2_with fail; refine (or_any _ _ _).mono ?_; rintro e w3 ⟨rfl, b3⟩; replace hP0 := hP0.below b3 hP0.lt; replace hB0 := hB0.trans (b3.mono hB0.size); clear b3
  generalize clsSet (ByteArray.mk #[97, 108, 110, 117, 109]).data.toList ||| ofl [95] = t
  go_wp2_with fail
  refine (xclass_any _ _).mono ?_
  rintro e w4 ⟨rfl, b4⟩
  replace hP0 := (hP0.alloc (.cells #[.int .u64 (ow t 0), .int .u64 (ow t 1), .int .u64 (ow t 2), .int .u64 (ow t 3)] 57)).below b4 (by have := hP0.lt; simp; omega); replace hB0 := (hB0.alloc hB0.size (.cells #[.int .u64 (ow t 0), .int .u64 (ow t 1), .int .u64 (ow t 2), .int .u64 (ow t 3)] 57)).trans (b4.mono (by have := hB0.size; simp; omega)); clear b4
  rw [show clsSet (ByteArray.mk #[112, 117, 110, 99, 116]).data.toList = punctSet from rfl]
  go_wp2_with fail
  refine (has_any _ _ hc0 hc1 _).mono ?_
  rintro e w5 ⟨rfl, b5⟩
  replace hP0 := hP0.below b5 hP0.lt; replace hB0 := hB0.trans (b5.mono hB0.size); clear b5
  rw [show ohas punctSet ((c : Int)).toNat = true from hp]
  go_wp2_with fail
  refine (of_one (c : Int) hc0 hc1 _ _ (by simp)).mono ?_
  rintro e w6 ⟨rfl, b6⟩
  replace hP0 := hP0.below b6 hP0.lt; replace hB0 := hB0.trans (b6.mono hB0.size); clear b6
  rw [show ofl [(c : Int)] = oSpan c c from ofl_one c]
  have g := (((hP0.set 0 (.int .u64 (ow (oSpan c c) 0))).set 1 (.int .u64 (ow (oSpan c c) 1))).set 2 (.int .u64 (ow (oSpan c c) 2))).set 3 (.int .u64 (ow (oSpan c c) 3)); have hBn := (((hB0.setCell (p := ⟨w.heap.size, 0, none⟩) (Nat.le_refl _) (.int .u64 (ow (oSpan c c) 0))).setCell (p := ⟨w.heap.size, 1, none⟩) (Nat.le_refl _) (.int .u64 (ow (oSpan c c) 1))).setCell (p := ⟨w.heap.size, 2, none⟩) (Nat.le_refl _) (.int .u64 (ow (oSpan c c) 2))).setCell (p := ⟨w.heap.size, 3, none⟩) (Nat.le_refl _) (.int .u64 (ow (oSpan c c) 3)); have p0 := (hP0.cell 0).trans rfl; have p1 := (hP0.cell 1).trans rfl; have p2 := (hP0.cell 2).trans rfl; have p3 := (hP0.cell 3).trans rfl; have z0 := hP0.frozen 0; have z1 := hP0.frozen 1; have z2 := hP0.frozen 2; have z3 := hP0.frozen 3; have hl := hP0.lt; have HG := Lib.hid g; have HBn := Lib.hid hBn; clear g hBn hP0 hB0; go_wp2_with fail; have g := HG.out; have hBn := HBn.out; clear HG HBn p0 p1 p2 p3 z0 z1 z2 z3; generalize (((World.setCell _ _ _).setCell _ _).setCell _ _).setCell _ _ = w9 at g hBn ⊢; have d0 := (g.cell 0).trans rfl; have d1 := (g.cell 1).trans rfl; have d2 := (g.cell 2).trans rfl; have d3 := (g.cell 3).trans rfl; exact bodyPost_ret (v := .tuple #[.agg #[.int .u64 (ow (oSpan c c) 0), .int .u64 (ow (oSpan c c) 1), .int .u64 (ow (oSpan c c) 2), .int .u64 (ow (oSpan c c) 3)], .bool false, .bool true]) (by simp [results, Tryd.results86, go_sem, d0, d1, d2, d3]) rfl ⟨rfl, hBn⟩
set_option linter.unusedSimpArgs false in
set_option maxRecDepth 100000 in
set_option maxHeartbeats 4000000 in
theorem esc_no (c : Nat) (w : World) (hc : c < 256) (h1 : c ≠ 110) (h2 : c ≠ 116) (h3 : c ≠ 119) (h4 : c ≠ 87) (h5 : c ≠ 115) (h6 : c ≠ 83) (hp : ohas punctSet c = false) : Calls Tryd.prog 86 #[.int .u8 (c : Int)] w fun e w' => e = .returned (.tuple #[.agg #[.int .u64 0, .int .u64 0, .int .u64 0, .int .u64 0], .bool false, .bool false]) ∧ Below w.heap.size w w' := by
  have e110 : ((c : Int) == 110) = false := by simp; omega
  have e116 : ((c : Int) == 116) = false := by simp; omega
  have e119 : ((c : Int) == 119) = false := by simp; omega
  have e87 : ((c : Int) == 87) = false := by simp; omega
  have e115 : ((c : Int) == 115) = false := by simp; omega
  have e83 : ((c : Int) == 83) = false := by simp; omega
  have hc0 : (0 : Int) ≤ (c : Int) := by omega
  have hc1 : (c : Int) ≤ 255 := by omega
  clear h1 h2 h3 h4 h5 h6
  have hB0 := (Below.refl w.heap.size w).alloc (Nat.le_refl _) (.cells #[.int .u64 0, .int .u64 0, .int .u64 0, .int .u64 0] 57); have hP0 := Blk.new w #[.int .u64 0, .int .u64 0, .int .u64 0, .int .u64 0] 57 w.heap.size rfl; go_enter Tryd.func86, Tryd.ntmps86; go_wp2_with fail; refine (xclass_any _ _).mono ?_; rintro e w1 ⟨rfl, b1⟩; replace hP0 := hP0.below b1 hP0.lt; replace hB0 := hB0.trans (b1.mono hB0.size); clear b1; go_wp2_with fail; refine (of_one 95 (by decide) (by decide) _ _ (by simp)).mono ?_; rintro e w2 ⟨rfl, b2⟩; replace hP0 := hP0.below b2 hP0.lt; replace hB0 := hB0.trans (b2.mono hB0.size); clear b2; go_wp2_with fail; refine (or_any _ _ _).mono ?_; rintro e w3 ⟨rfl, b3⟩; replace hP0 := hP0.below b3 hP0.lt; replace hB0 := hB0.trans (b3.mono hB0.size); clear b3
  generalize clsSet (ByteArray.mk #[97, 108, 110, 117, 109]).data.toList ||| ofl [95] = t
  go_wp2_with fail
  refine (xclass_any _ _).mono ?_
  rintro e w4 ⟨rfl, b4⟩
  replace hP0 := (hP0.alloc (.cells #[.int .u64 (ow t 0), .int .u64 (ow t 1), .int .u64 (ow t 2), .int .u64 (ow t 3)] 57)).below b4 (by have := hP0.lt; simp; omega); replace hB0 := (hB0.alloc hB0.size (.cells #[.int .u64 (ow t 0), .int .u64 (ow t 1), .int .u64 (ow t 2), .int .u64 (ow t 3)] 57)).trans (b4.mono (by have := hB0.size; simp; omega)); clear b4
  rw [show clsSet (ByteArray.mk #[112, 117, 110, 99, 116]).data.toList = punctSet from rfl]
  go_wp2_with fail
  refine (has_any _ _ hc0 hc1 _).mono ?_
  rintro e w5 ⟨rfl, b5⟩
  replace hP0 := hP0.below b5 hP0.lt; replace hB0 := hB0.trans (b5.mono hB0.size); clear b5
  rw [show ohas punctSet ((c : Int)).toNat = false from hp]
  have g := (((hP0.set 0 (.int .u64 0)).set 1 (.int .u64 0)).set 2 (.int .u64 0)).set 3 (.int .u64 0); have hBn := (((hB0.setCell (p := ⟨w.heap.size, 0, none⟩) (Nat.le_refl _) (.int .u64 0)).setCell (p := ⟨w.heap.size, 1, none⟩) (Nat.le_refl _) (.int .u64 0)).setCell (p := ⟨w.heap.size, 2, none⟩) (Nat.le_refl _) (.int .u64 0)).setCell (p := ⟨w.heap.size, 3, none⟩) (Nat.le_refl _) (.int .u64 0); have p0 := (hP0.cell 0).trans rfl; have p1 := (hP0.cell 1).trans rfl; have p2 := (hP0.cell 2).trans rfl; have p3 := (hP0.cell 3).trans rfl; have z0 := hP0.frozen 0; have z1 := hP0.frozen 1; have z2 := hP0.frozen 2; have z3 := hP0.frozen 3; have hl := hP0.lt; have HG := Lib.hid g; have HBn := Lib.hid hBn; clear g hBn hP0 hB0; go_wp2_with fail; have g := HG.out; have hBn := HBn.out; clear HG HBn p0 p1 p2 p3 z0 z1 z2 z3; generalize (((World.setCell _ _ _).setCell _ _).setCell _ _).setCell _ _ = w9 at g hBn ⊢; have d0 := (g.cell 0).trans rfl; have d1 := (g.cell 1).trans rfl; have d2 := (g.cell 2).trans rfl; have d3 := (g.cell 3).trans rfl; exact bodyPost_ret (v := .tuple #[.agg #[.int .u64 0, .int .u64 0, .int .u64 0, .int .u64 0], .bool false, .bool false]) (by simp [results, Tryd.results86, go_sem, d0, d1, d2, d3]) rfl ⟨rfl, hBn⟩
/-- What Escaped answers. -/
def escV (r : Option (OSet × Bool)) : Value := match r with
  | some q => .tuple #[.agg #[.int .u64 (ow q.1 0), .int .u64 (ow q.1 1), .int .u64 (ow q.1 2), .int .u64 (ow q.1 3)], .bool q.2, .bool true]
  | none => .tuple #[.agg #[.int .u64 0, .int .u64 0, .int .u64 0, .int .u64 0], .bool false, .bool false]
theorem esc_any (c : Nat) (hc : c < 256) (w : World) : Calls Tryd.prog 86 #[.int .u8 (c : Int)] w fun e w' => e = .returned (escV (escSet c)) ∧ Below w.heap.size w w' := by
  unfold escSet
  split
  · rename_i h; subst h; exact esc_110 w
  split
  · rename_i h; subst h; exact esc_116 w
  split
  · rename_i h; subst h; exact esc_119 w
  split
  · rename_i h; subst h; exact esc_87 w
  split
  · rename_i h; subst h; exact esc_115 w
  split
  · rename_i h; subst h; exact esc_83 w
  split
  · rename_i h1 h2 h3 h4 h5 h6 h7; exact esc_yes c w hc h1 h2 h3 h4 h5 h6 h7
  · rename_i h1 h2 h3 h4 h5 h6 h7; exact esc_no c w hc h1 h2 h3 h4 h5 h6 (by simpa using h7)
end Go.Proofs.YtbbcjclkklmoaaaDoor
