/- The document's examples, which each statement of layer 1 begins with. -/
import Derived.Test.YtjjmkplicjkokaaDoorOctClass
import Derived.Test.YtjjmkplicjkokaaDoorTxtWalk
namespace Go.Proofs.YtjjmkplicjkokaaDoor
open Go.RowKit

theorem punct_set : clsSet (ByteArray.toList ⟨#[112, 117, 110, 99, 116]⟩) = cPunct := by rw [ByteArray.toList_eq]; rfl
theorem punct_ok : clsOk (ByteArray.toList ⟨#[112, 117, 110, 99, 116]⟩) = true := by rw [ByteArray.toList_eq]; rfl
theorem punct_len : olen cPunct = 32 := by decide +kernel
theorem e9_wide : txt (wideL [233]) = ⟨#[195, 169]⟩ := by decide +kernel
theorem a_has : ohas (ofl [97]) 97 = true := by decide +kernel
theorem a_hasnt : ohas (ofl [97]) 98 = false := by decide +kernel

theorem punct_any (w : World) :
    Calls Tryd.prog 11 #[.string ⟨#[112, 117, 110, 99, 116]⟩] w fun e w' => e = .returned (.tuple #[.agg #[.int .u64 (ow cPunct 0), .int .u64 (ow cPunct 1), .int .u64 (ow cPunct 2), .int .u64 (ow cPunct 3)], .bool true]) ∧ Below w.heap.size w w' := by
  have h := class_any ⟨#[112, 117, 110, 99, 116]⟩ w
  rw [punct_set, punct_ok] at h
  exact h
theorem punct_len_any (w : World) :
    Calls Tryd.prog 13 #[.agg #[.int .u64 (ow cPunct 0), .int .u64 (ow cPunct 1), .int .u64 (ow cPunct 2), .int .u64 (ow cPunct 3)]] w fun e w' => e = .returned (.int .i64 32) ∧ Below w.heap.size w w' := by
  have h := len_any cPunct w
  rw [punct_len] at h
  exact h
theorem e9_any (w : World) :
    Calls Tryd.prog 12 #[.string ⟨#[233]⟩] w fun e w' => e = .returned (.string ⟨#[195, 169]⟩) ∧ Below w.heap.size w w' := by
  have h := wide_any ⟨#[233]⟩ w (by decide)
  rw [show (⟨#[233]⟩ : ByteArray).data.toList = [233] from rfl, e9_wide] at h
  exact h
theorem a_has_any (w : World) :
    Calls Tryd.prog 15 #[.agg #[.int .u64 (ow (ofl [97]) 0), .int .u64 (ow (ofl [97]) 1), .int .u64 (ow (ofl [97]) 2), .int .u64 (ow (ofl [97]) 3)], .int .u8 97] w fun e w' => e = .returned (.bool true) ∧ Below w.heap.size w w' := by
  have h := has_any (ofl [97]) 97 (by decide) (by decide) w
  rw [show (97 : Int).toNat = 97 from rfl, a_has] at h
  exact h
theorem a_hasnt_any (w : World) :
    Calls Tryd.prog 15 #[.agg #[.int .u64 (ow (ofl [97]) 0), .int .u64 (ow (ofl [97]) 1), .int .u64 (ow (ofl [97]) 2), .int .u64 (ow (ofl [97]) 3)], .int .u8 98] w fun e w' => e = .returned (.bool false) ∧ Below w.heap.size w w' := by
  have h := has_any (ofl [97]) 98 (by decide) (by decide) w
  rw [show (98 : Int).toNat = 98 from rfl, a_hasnt] at h
  exact h

set_option maxRecDepth 100000 in
set_option maxHeartbeats 2000000 in
theorem awake_any (w : World) :
    Calls Tryd.prog 4 #[] w fun e w' => e = .returned (.bool true) ∧ Below w.heap.size w w' := by
  go_enter Tryd.func4, Tryd.ntmps4
  go_wp2_with fail
  refine (punct_any _).mono ?_
  rintro e w1 ⟨rfl, b1⟩
  have hW := b1
  have hB := Blk.new w1 (oc cPunct) 26 _ rfl
  go_wp2_with fail
  refine (e9_any _).mono ?_
  rintro e w2 ⟨rfl, b2⟩
  replace hB := hB.below b2 hB.lt
  replace hW := (hW.alloc hW.size _).trans (b2.mono (hW.alloc hW.size _).size)
  obtain ⟨c0, c1, c2, c3⟩ := oblk_cells hB
  go_wp2_with fail
  refine (punct_len_any _).mono ?_
  rintro e w3 ⟨rfl, b3⟩
  replace hW := hW.trans (b3.mono hW.size)
  clear c0 c1 c2 c3
  go_wp2_with fail
  refine (of_one 97 (by decide) (by decide) _ _ (by simp)).mono ?_
  rintro e w4 ⟨rfl, b4⟩
  replace hW := hW.trans (b4.mono hW.size)
  go_wp2_with fail
  refine (a_has_any _).mono ?_
  rintro e w5 ⟨rfl, b5⟩
  replace hW := hW.trans (b5.mono hW.size)
  go_wp2_with fail
  refine (of_one 97 (by decide) (by decide) _ _ (by simp)).mono ?_
  rintro e w6 ⟨rfl, b6⟩
  replace hW := hW.trans (b6.mono hW.size)
  go_wp2_with fail
  refine (a_hasnt_any _).mono ?_
  rintro e w7 ⟨rfl, b7⟩
  replace hW := hW.trans (b7.mono hW.size)
  go_wp2
  go_ret
  exact ⟨rfl, hW⟩

end Go.Proofs.YtjjmkplicjkokaaDoor
