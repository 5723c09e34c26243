/- The statements' fixed fact of layer 5, walked from what ere.Parse answers (EParses). -/
import Derived.Test.YtacpoandhocmhaaGreatDoorCmn
import Derived.Test.YtacpoandhocmhaaGreatDoorEqM
import Derived.Test.YtacpoandhocmhaaGreatDoorNdAb
import Derived.Test.YtacpoandhocmhaaGreatDoorBrProgBC
namespace Go.Proofs.YtacpoandhocmhaaGreatDoor
open Go Go.RowKit Go.Shelf

/-- What ere.Parse answers, whatever the text. -/
def EParses : Prop := ∀ (s : ByteArray) (w : World), Gl w → Calls Tryz.prog 15 #[.string s] w fun e w' => PAns (parseM true s.data.toList) w e w'
theorem ndx_alt_form {F : Nat → Prop} {w : World} {l : List Nd} {v : Value} (h : NdX F w (.alt l) v) : ∃ a cap, v = .iface 73 (.agg #[.slice a l.length cap]) := by
  obtain ⟨n, h⟩ := h
  cases n with
  | zero => exact h.elim
  | succ n => obtain ⟨a, cap, h1, _⟩ := h; exact ⟨a, cap, h1⟩
theorem ereEx1 (hP : EParses) (w : World) (hG : Gl w) : Calls Tryz.prog 15 #[.string ⟨#[97, 124, 40, 98, 41, 43]⟩] w fun e w' => ∃ a c ma mc, e = .returned (.tuple #[.iface 73 (.agg #[.slice a 2 c]), .slice ma 0 mc, .int .i64 0, .int .i64 0]) ∧ NdX (fun k => k < w'.heap.size) w' ereN1 (.iface 73 (.agg #[.slice a 2 c])) ∧ Below w.heap.size w w' := by
  refine (hP ⟨#[97, 124, 40, 98, 41, 43]⟩ w hG).mono ?_
  rw [show (ByteArray.mk #[97, 124, 40, 98, 41, 43]).data.toList = [97, 124, 40, 98, 41, 43] from rfl, ere_ex1]
  rintro e w' ⟨hb, v, mv, rfl, hn, hm⟩
  obtain ⟨a, c, rfl⟩ := ndx_alt_form hn
  obtain ⟨ma, mc, rfl⟩ := own_form' hm
  exact ⟨a, c, ma, mc, rfl, ndx_in hn, hb⟩
theorem ereEx2 (hP : EParses) (w : World) (hG : Gl w) : Calls Tryz.prog 15 #[.string ⟨#[42, 97]⟩] w fun e w' => e = .returned (.tuple #[.nilIface, .slice none 0 0, .int .i64 0, .int .i64 10]) ∧ Below w.heap.size w w' := by
  refine (hP ⟨#[42, 97]⟩ w hG).mono ?_
  rw [show (ByteArray.mk #[42, 97]).data.toList = [42, 97] from rfl, ere_ex2]
  rintro e w' ⟨hb, rfl⟩
  exact ⟨rfl, hb⟩
set_option linter.unusedSimpArgs false in
set_option maxRecDepth 100000 in
set_option maxHeartbeats 1000000 in
theorem awake5_any (hP : EParses) (w : World) (hG : Gl w) : Calls Tryz.prog 14 #[] w fun e w' => e = .returned (.bool true) ∧ Below w.heap.size w w' := by
  go_enter Tryz.func14, Tryz.ntmps14
  go_wp2_with fail
  refine (ereEx1 hP w hG).mono ?_
  rintro e w1 ⟨a, c, ma, mc, rfl, hn1, hW⟩
  have hA := (Below.refl w1.heap.size w1).alloc (Nat.le_refl _) (.cells #[.slice a 2 c] 73)
  have hG1 := (hG.up hW).up hA
  have hn1' := NdX.below hA hn1
  have hW1 := hW.trans (hA.mono hW.size)
  have hC := Blk.new w1 #[.slice a 2 c] 73 w1.heap.size rfl
  clear hn1 hW hA
  have HE2 := ereEx2 hP _ hG1
  clear hG1
  go_wp2_with fail
  refine HE2.mono ?_
  rintro e w2 ⟨rfl, b2⟩
  have hn3 := NdX.below b2 hn1'
  have hC2 := hC.below b2 hC.lt
  have hW2 := hW1.trans (b2.mono hW1.size)
  have hgr := pgroups_any ereN1 _ w2 (ndx_in hn3) ere_size1
  rw [ere_groups1] at hgr
  have k0 : w2.cell? ⟨w1.heap.size, 0, none⟩ = some (.slice a 2 c) := (hC2.cell 0).trans rfl
  clear hn1' hW1 hC hn3 hC2 b2 HE2
  go_wp2_with fail
  refine hgr.mono ?_
  rintro e w3 ⟨rfl, b3⟩
  have hW3 := hW2.trans (b3.mono hW2.size)
  clear hgr b3 k0
  go_wp2_with fail
  go_ret
  exact ⟨rfl, hW3⟩
end Go.Proofs.YtacpoandhocmhaaGreatDoor
