/- Contracts of the calls on texts: Wide and Narrow, of octet and of the document's own answers. -/
import Derived.Test.YtacpoandhocmhaaGreatDoorRows
import Derived.Test.YtacpoandhocmhaaGreatDoorMaA
import Derived.Test.YtacpoandhocmhaaGreatDoorBuild
import Derived.Test.YtacpoandhocmhaaGreatDoorMaB
import Derived.WalkKit
import Derived.WalkSpells
import Derived.WalkLawsBesides
import Derived.BigCall
import Derived.BigQuiet
import Derived.Deep.QuietTactic
import Derived.Lib.Hide
namespace Go.Proofs.YtacpoandhocmhaaGreatDoor
open Go.RowKit

theorem ret_str {a b : ByteArray} (h : a = b) : Ending.returned (.string a) = .returned (.string b) := by rw [h]
theorem ret_str_bool {a b : ByteArray} {c d : Bool} (h : a = b) (h2 : c = d) : Ending.returned (.tuple #[.string a, .bool c]) = .returned (.tuple #[.string b, .bool d]) := by rw [h, h2]

theorem extract_one (s : ByteArray) (k : Nat) (h : k < s.size) : s.extract k (k + 1) = txt [s[k]] := by
  refine ByteArray.ext ?_
  have hk : k < s.data.size := h
  simp only [ByteArray.data_extract, txt]
  refine Array.ext (by simp; omega) fun i h1 h2 => ?_
  simp at h2
  subst h2
  simp
  rfl

theorem list_take_snoc (s : ByteArray) (k : Nat) (h : k < s.size) : s.data.toList.take (k + 1) = s.data.toList.take k ++ [s[k]] := by
  rw [List.take_succ_eq_append_getElem (by simpa using h)]; rfl
theorem list_drop_cons (s : ByteArray) (k : Nat) (h : k < s.size) : s.data.toList.drop k = s[k] :: s.data.toList.drop (k + 1) := by
  rw [List.drop_eq_getElem_cons (by simpa using h)]; rfl

set_option maxHeartbeats 4000000 in
set_option maxRecDepth 1000000 in
theorem wide_any (s : ByteArray) (w : World) (hs : s.size ≤ 35184372088832) :
    Calls Tryz.prog 70 #[.string s] w fun e w' => e = .returned (.string (txt (wideL s.data.toList))) ∧ Below w.heap.size w w' := by
  go_enter Tryz.func70, Tryz.ntmps70
  go_wp2
  go_loopw [7] (fun i wr => ∃ k : Nat, k ≤ s.size ∧ i = .int .i64 k ∧ Lib.IsBuilderF 103 5 w.heap.size w.heap.size (Lib.byteCells (wideL (s.data.toList.take k))) wr ∧ Below w.heap.size w wr ∧ w.heap.size ≤ wr.heap.size) (fun i _ => s.size - (intOf i).toNat)
  case atStart =>
    refine ⟨0, by omega, rfl, Lib.IsBuilderF.of (Lib.fresh_isBuilder 103 5 w), (Below.refl _ w).alloc (Nat.le_refl _) _, by simp⟩
  case round =>
    obtain ⟨k, hk, rfl, hI, hbw, hsz⟩ := hrel
    have hlen := wideL_len (s.data.toList.take k)
    have hl2 : (s.data.toList.take k).length ≤ k := List.length_take_le _ _
    have hlc : (Lib.byteCells (wideL (s.data.toList.take k))).length ≤ 2 * k := by rw [Lib.byteCells_length]; omega
    by_cases hlt : k < s.size
    · have hb := s[k].toNat_lt
      have Hn := Lib.hid (show wideL (s.data.toList.take (k + 1)) = wideL (s.data.toList.take k) ++ wide1 s[k] by rw [list_take_snoc s k hlt, wideL_snoc])
      go_wp2_with (go_at_call 110; refine (writeRune_k w.heap.size w.heap.size _ _ (by omega) (by omega) _ hI (by omega) hsz).mono ?_)
      rintro e W1 ⟨rfl, h1, b1, _⟩
      go_wp2
      go_roundw
      case rel =>
        refine ⟨k + 1, by omega, by go_num, ?_, hbw.trans b1, Nat.le_trans hsz b1.size⟩
        rw [Hn.out, Lib.byteCells_append, ← rune_wide, Lib.byteCells_encodeRune]
        exact Or.inr h1
      case measure => simp [intOf]; omega
    · have Hk := Lib.hid (show s.data.toList.take k = s.data.toList from List.take_of_length_le (by rw [← size_list]; omega))
      go_wp2_with (go_at_call 51; refine (builderString_k w.heap.size w.heap.size _ _ hI hsz).mono ?_)
      rintro e W1 ⟨rfl, _, b1, _⟩
      go_wp2
      go_ret
      exact ⟨ret_str (by rw [Hk.out]; rfl), hbw.trans b1⟩


/-- What narrowing answers: the text, or the empty one; and whether there is one. -/
def narrowS (l : List UInt8) : List UInt8 := (narrowL l).getD []
def narrowOk (l : List UInt8) : Bool := (narrowL l).isSome



end Go.Proofs.YtacpoandhocmhaaGreatDoor
