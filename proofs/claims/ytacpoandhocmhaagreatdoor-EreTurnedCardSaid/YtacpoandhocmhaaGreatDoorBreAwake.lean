/- The statements' fixed fact about basic regexes, walked. -/
import Derived.Test.YtacpoandhocmhaaGreatDoorCmn
import Derived.Test.YtacpoandhocmhaaGreatDoorRdMP
import Derived.Test.YtacpoandhocmhaaGreatDoorMaC
import Derived.Test.YtacpoandhocmhaaGreatDoorNdAb
namespace Go.Proofs.YtacpoandhocmhaaGreatDoor
open Go Go.RowKit

theorem breEx1 (w : World) (hG : Gl w) : Calls Tryz.prog 12 #[.string ⟨#[97, 42, 92, 40, 98, 92, 41, 92, 49]⟩] w fun e w' => ∃ a c ma mc, e = .returned (.tuple #[.iface 62 (.agg #[.slice a 3 c]), .slice ma 0 mc, .int .i64 0, .int .i64 0]) ∧ NdX (fun k => k < w'.heap.size) w' breN1 (.iface 62 (.agg #[.slice a 3 c])) ∧ Below w.heap.size w w' := by
  refine (bparse_any ⟨#[97, 42, 92, 40, 98, 92, 41, 92, 49]⟩ w hG).mono ?_
  rw [show (ByteArray.mk #[97, 42, 92, 40, 98, 92, 41, 92, 49]).data.toList = [97, 42, 92, 40, 98, 92, 41, 92, 49] from rfl, bre_ex1]
  rintro e w' ⟨hb, v, mv, rfl, hn, hm⟩
  obtain ⟨a, c, rfl⟩ := ndx_cat_form hn
  obtain ⟨ma, mc, rfl⟩ := own_form' hm
  exact ⟨a, c, ma, mc, rfl, ndx_in hn, hb⟩
theorem breEx2 (w : World) (hG : Gl w) : Calls Tryz.prog 12 #[.string ⟨#[42, 97]⟩] w fun e w' => ∃ a c ma mc, e = .returned (.tuple #[.iface 62 (.agg #[.slice a 2 c]), .slice ma 0 mc, .int .i64 0, .int .i64 0]) ∧ NdX (fun k => k < w'.heap.size) w' breN2 (.iface 62 (.agg #[.slice a 2 c])) ∧ Below w.heap.size w w' := by
  refine (bparse_any ⟨#[42, 97]⟩ w hG).mono ?_
  rw [show (ByteArray.mk #[42, 97]).data.toList = [42, 97] from rfl, bre_ex2]
  rintro e w' ⟨hb, v, mv, rfl, hn, hm⟩
  obtain ⟨a, c, rfl⟩ := ndx_cat_form hn
  obtain ⟨ma, mc, rfl⟩ := own_form' hm
  exact ⟨a, c, ma, mc, rfl, ndx_in hn, hb⟩
set_option linter.unusedSimpArgs false in
set_option maxRecDepth 100000 in
set_option maxHeartbeats 1000000 in
theorem awake4_any (w : World) (hG : Gl w) : Calls Tryz.prog 11 #[] w fun e w' => e = .returned (.bool true) ∧ Below w.heap.size w w' := by
  go_enter Tryz.func11, Tryz.ntmps11
  go_wp2_with fail
  refine (breEx1 w hG).mono ?_
  rintro e w1 ⟨a, c, ma, mc, rfl, hn1, hW⟩
  have hA := (Below.refl w1.heap.size w1).alloc (Nat.le_refl _) (.cells #[.slice a 3 c] 62)
  have hG1 := (hG.up hW).up hA
  have hn1' := NdX.below hA hn1
  have hW1 := hW.trans (hA.mono hW.size)
  have hC := Blk.new w1 #[.slice a 3 c] 62 w1.heap.size rfl
  clear hn1 hW hA
  have HE2 := breEx2 _ hG1
  clear hG1
  go_wp2_with fail
  refine HE2.mono ?_
  rintro e w2 ⟨a2, c2, ma2, mc2, rfl, hn2, b2⟩
  have hn3 := NdX.below b2 hn1'
  have hC2 := hC.below b2 hC.lt
  have hW2 := hW1.trans (b2.mono hW1.size)
  have hbk := pbacks_any breN1 _ w2 (ndx_in hn3) bre_size1
  rw [bre_backs] at hbk
  have k0 : w2.cell? ⟨w1.heap.size, 0, none⟩ = some (.slice a 3 c) := (hC2.cell 0).trans rfl
  have HN2 := Lib.hid hn2
  clear hn1' hW1 hC hn3 hC2 b2 HE2 hn2
  go_wp2_with fail
  refine hbk.mono ?_
  rintro e w3 ⟨rfl, b3⟩
  have hsz := psize_any breN2 _ w3 (ndx_in (HN2.out.below b3)) (by rw [bre_size]; decide)
  rw [bre_size] at hsz
  have hW3 := hW2.trans (b3.mono hW2.size)
  clear hbk b3 k0
  go_wp2_with fail
  refine hsz.mono ?_
  rintro e w4 ⟨rfl, b4⟩
  have hW4 := hW3.trans (b4.mono hW3.size)
  clear hsz b4
  go_wp2_with fail
  go_ret
  exact ⟨rfl, hW4⟩
end Go.Proofs.YtacpoandhocmhaaGreatDoor
