/- The walks of OctetNarrows and OctetWides: of any text they return true. -/
import Derived.Test.YtjjmkplicjkokaaOctAwake
namespace Go.Proofs.Ytjjmkplicjkokaa
open Go.RowKit

set_option maxRecDepth 100000 in
set_option maxHeartbeats 2000000 in
theorem narrows_any (s : ByteArray) (w : World) :
    Calls Try.prog 6 #[.string s] w fun e w' => e = .returned (.bool true) ∧ Below w.heap.size w w' := by
  by_cases hs : s.size ≤ 500
  · go_enter Try.func6, Try.ntmps6
    go_wp2_with fail
    refine (awake_any _).mono ?_
    rintro e w1 ⟨rfl, b1⟩
    have hW := b1
    go_wp2_with fail
    refine (narrow_any s _ (by omega)).mono ?_
    rintro e w2 ⟨rfl, b2⟩
    replace hW := hW.trans (b2.mono hW.size)
    go_wp2_with fail
    refine (rnarrow_any s _ (by omega)).mono ?_
    rintro e w3 ⟨rfl, b3⟩
    replace hW := hW.trans (b3.mono hW.size)
    go_wp2
    go_ret
    exact ⟨by simp, hW⟩
  · go_enter Try.func6, Try.ntmps6
    go_wp2_with fail
    refine (awake_any _).mono ?_
    rintro e w1 ⟨rfl, b1⟩
    have hW := b1
    go_wp2_with fail
    refine (awake_any _).mono ?_
    rintro e w2 ⟨rfl, b2⟩
    replace hW := hW.trans (b2.mono hW.size)
    go_wp2
    go_ret
    exact ⟨rfl, hW⟩

theorem narrow_wide_any (s : ByteArray) (w : World) (hs : s.size ≤ 500) :
    Calls Try.prog 25 #[.string (txt (wideL s.data.toList))] w fun e w' => e = .returned (.tuple #[.string s, .bool true]) ∧ Below w.heap.size w w' := by
  have hl := wideL_len s.data.toList
  rw [← size_list] at hl
  have h := narrow_any (txt (wideL s.data.toList)) w (by rw [txt_size]; omega)
  rw [txt_list, narrowS, narrowOk, narrow_wide, Option.getD_some, Option.isSome_some, txt_of] at h
  exact h

/-- Where the k-th byte's sign stands in the wide text, and what is decoded there. -/
theorem wide_at (s : ByteArray) (k : Nat) (h : k < s.size) :
    (wideL (s.data.toList.take k)).length < (txt (wideL s.data.toList)).size ∧
    Utf8.decode (txt (wideL s.data.toList)) (wideL (s.data.toList.take k)).length = (s[k].toNat, (wide1 s[k]).length) ∧
    (wideL (s.data.toList.take (k + 1))).length = (wideL (s.data.toList.take k)).length + (wide1 s[k]).length := by
  have hsplit : s.data.toList = s.data.toList.take k ++ (s[k] :: s.data.toList.drop (k + 1)) := by
    rw [← list_drop_cons s k h, List.take_append_drop]
  have hw : wideL s.data.toList = wideL (s.data.toList.take k) ++ (wide1 s[k] ++ wideL (s.data.toList.drop (k + 1))) := by
    have : wideL s.data.toList = wideL (s.data.toList.take k ++ (s[k] :: s.data.toList.drop (k + 1))) := by rw [← hsplit]
    rw [this]
    simp [wideL]
  have h1 := wide1_len s[k]
  refine ⟨?_, ?_, ?_⟩
  · rw [txt_size, hw, List.length_append, List.length_append]; omega
  · rw [hw]; exact decode_wide _ _ _
  · rw [list_take_snoc s k h, wideL_snoc, List.length_append]

set_option maxRecDepth 100000 in
set_option maxHeartbeats 4000000 in
theorem wides_any (s : ByteArray) (w : World) :
    Calls Try.prog 5 #[.string s] w fun e w' => e = .returned (.bool true) ∧ Below w.heap.size w w' := by
  by_cases hs : s.size ≤ 500
  · go_enter Try.func5, Try.ntmps5
    go_wp2_with fail
    refine (awake_any _).mono ?_
    rintro e w1 ⟨rfl, b1⟩
    have hW := b1
    go_wp2_with fail
    refine (wide_any s _ (by omega)).mono ?_
    rintro e w2 ⟨rfl, b2⟩
    replace hW := hW.trans (b2.mono hW.size)
    go_wp2_with fail
    refine (narrow_wide_any s _ hs).mono ?_
    rintro e w3 ⟨rfl, b3⟩
    replace hW := hW.trans (b3.mono hW.size)
    clear b1 b2 b3
    go_wp2
    go_loopw [6] (fun i wr => ∃ k : Nat, k ≤ s.size ∧ i = .int .i64 k ∧ wr.heap[w3.heap.size]? = some (.stringIter (txt (wideL s.data.toList)) (wideL (s.data.toList.take k)).length) ∧ Below w.heap.size w wr) (fun i _ => s.size - (intOf i).toNat)
    case atStart =>
      refine ⟨0, by omega, rfl, ?_, hW.alloc hW.size _⟩
      have := World.iter_heap w3 (txt (wideL s.data.toList)) 0
      simpa [wideL] using this
    case round =>
      obtain ⟨k, hk, rfl, hit, hbw⟩ := hrel
      have hsz : w3.heap.size < wr.heap.size := (Array.getElem?_eq_some_iff.1 hit).1
      have hs3 := hW.size
      by_cases hlt : k < s.size
      · obtain ⟨hp, hD, hN⟩ := wide_at s k hlt
        have hnx : ∀ ty, (Instr.next (.pointer (some ⟨w3.heap.size, 0, none⟩)) true ty).run Try.prog wr = _ := fun ty => Lib.run_next_any_at wr w3.heap.size _ _ ty hit hp
        rw [hD] at hnx
        have hit2 := Lib.iterAt_heap wr w3.heap.size (txt (wideL s.data.toList)) _ ((wideL (s.data.toList.take k)).length + (wide1 s[k]).length) hit
        have hbw2 := Lib.below_iterAt hbw (k := w3.heap.size) hs3 (txt (wideL s.data.toList)) ((wideL (s.data.toList.take k)).length + (wide1 s[k]).length)
        have HN := Lib.hid hN
        clear hN hD
        have hb := s[k].toNat_lt
        go_wp2
        go_roundw
        case rel => exact ⟨k + 1, by omega, by go_num, by rw [HN.out]; exact hit2, hbw2⟩
        case measure => simp [intOf]; omega
      · have hk2 : k = s.size := by omega
        have hfull : s.data.toList.take k = s.data.toList := List.take_of_length_le (by rw [← size_list]; omega)
        have hp : ¬ (wideL (s.data.toList.take k)).length < (txt (wideL s.data.toList)).size := by rw [hfull, txt_size]; omega
        clear hfull
        have hnx : ∀ ty, (Instr.next (.pointer (some ⟨w3.heap.size, 0, none⟩)) true ty).run Try.prog wr = _ := fun ty => Lib.run_next_end_at wr w3.heap.size _ _ ty hit hp
        have hkk : ((k : Int) == (s.size : Int)) = true := by rw [hk2]; simp
        clear hk2
        go_wp2_with fail
        refine (rwide_any s _ (by omega)).mono ?_
        rintro e w5 ⟨rfl, b5⟩
        go_wp2
        go_ret
        exact ⟨by simp, hbw.trans (b5.mono hbw.size)⟩
  · go_enter Try.func5, Try.ntmps5
    go_wp2_with fail
    refine (awake_any _).mono ?_
    rintro e w1 ⟨rfl, b1⟩
    have hW := b1
    go_wp2_with fail
    refine (awake_any _).mono ?_
    rintro e w2 ⟨rfl, b2⟩
    replace hW := hW.trans (b2.mono hW.size)
    go_wp2
    go_ret
    exact ⟨rfl, hW⟩

end Go.Proofs.Ytjjmkplicjkokaa
