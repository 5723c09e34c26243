/- The document's own answers of layer 11, walked: places, what stands there of some bytes, numbers, lines. -/
import Derived.Test.YtbhmpdbcjchdfaaDoorPcW
import Derived.Deep.LoopGhost
namespace Go.Proofs.YtbhmpdbcjchdfaaDoor
open Go.RowKit

theorem over_no (s : ByteArray) (k : Nat) (w : World) (h : k ≤ s.size) : Calls Tryd.prog 23 #[.string s, .int .i64 k] w fun e w' => e = .returned (.bool false) ∧ w' = w := by
  go_enter Tryd.func23, Tryd.ntmps23
  have h0 : ¬ (k : Int) < 0 := by omega
  have h1 : ¬ (s.size : Int) < (k : Int) := by omega
  go_wp2
  go_ret
  exact ⟨rfl, rfl⟩
theorem over_yes (s : ByteArray) (a : Int) (w : World) (h : ¬ (0 ≤ a ∧ a ≤ (s.size : Int))) : Calls Tryd.prog 23 #[.string s, .int .i64 a] w fun e w' => e = .returned (.bool true) ∧ w' = w := by
  go_enter Tryd.func23, Tryd.ntmps23
  by_cases h0 : a < 0
  · clear h
    go_wp2
    go_ret
    exact ⟨rfl, rfl⟩
  · have h1 : (s.size : Int) < a := by omega
    clear h
    go_wp2
    go_ret
    exact ⟨rfl, rfl⟩

theorem byte_beq (a b : UInt8) : ((a.toNat : Int) == (b.toNat : Int)) = (b == a) := by
  rw [Bool.eq_iff_iff, beq_iff_eq, beq_iff_eq]
  exact ⟨fun h => (UInt8.toNat_inj.1 (by omega)).symm, fun h => by rw [h]⟩

/-- Is a byte among the first i of some? -/
def pcAmong (cs : List UInt8) (i : Nat) (x : UInt8) : Bool := (cs.take i).contains x
theorem among_zero (cs : List UInt8) (x : UInt8) : pcAmong cs 0 x = false := rfl
theorem among_succ (t : ByteArray) (i : Nat) (h : i < t.size) (x : UInt8) : pcAmong t.data.toList (i + 1) x = (pcAmong t.data.toList i x || (x == t[i])) := by
  unfold pcAmong
  rw [List.take_add_one, Lib.data_getElem? t i h, Option.toList_some]
  simp
  rfl
theorem among_all (t : ByteArray) (x : UInt8) : pcAmong t.data.toList t.size x = t.data.toList.contains x := by
  unfold pcAmong
  rw [List.take_of_length_le (by rw [← size_list]; exact Nat.le_refl _)]

set_option maxHeartbeats 4000000 in
theorem rbehind_at (s cs : ByteArray) (k : Nat) (w : World) (hs : s.size ≤ 4000000) (hk : k ≤ s.size) (hcs : cs.size ≤ 4000000) :
    Calls Tryd.prog 24 #[.string s, .int .i64 k, .string cs] w fun e w' => e = .returned (.int .i64 ((k + pcIs cs.data.toList (s.data.toList.drop k) : Nat) : Int)) ∧ Below w.heap.size w w' := by
  have hP := over_no s k w hk
  obtain ⟨R, hR⟩ : ∃ R, k + pcIs cs.data.toList (s.data.toList.drop k) = R := ⟨_, rfl⟩
  rw [hR]
  have HR := Lib.hid hR
  clear hR
  go_enter Tryd.func24, Tryd.ntmps24
  go_wp2_with (go_at_call 23; refine hP.mono ?_; rintro e w' ⟨rfl, rfl⟩)
  clear hP
  go_loopw [1, 7, 8] (fun a _ _ wr => ∃ p : Nat, p ≤ s.size ∧ a = .int .i64 p ∧ p + pcIs cs.data.toList (s.data.toList.drop p) = R ∧ Below w'.heap.size w' wr) (fun a _ _ _ => s.size - (intOf a).toNat)
  case atStart => exact ⟨k, hk, rfl, HR.out, Below.refl _ _⟩
  case round =>
    obtain ⟨p, hp, rfl, hRp, hbw⟩ := hrel
    have HRp := Lib.hid hRp
    clear hRp
    by_cases hlt : p < s.size
    · have hlti : (p : Int) < (s.size : Int) := by omega
      obtain ⟨x, hx⟩ : ∃ x, s[p] = x := ⟨_, rfl⟩
      go_wp2
      go_loopg [7, 8, 18] cs.size (fun g f _ j wx => ∃ i : Nat, i + g = cs.size ∧ j = .int .i64 i ∧ f = .bool (pcAmong cs.data.toList i x) ∧ Below w'.heap.size w' wx)
      case atStart => exact ⟨0, by omega, rfl, rfl, hbw⟩
      case round =>
        obtain ⟨i, hig, rfl, rfl, hbx⟩ := hrel
        cases gk with
        | zero =>
          obtain rfl : i = cs.size := by omega
          have hci : ¬ (cs.size : Int) < (cs.size : Int) := by omega
          have Wp : IntKind.i64.wrap ((p : Int) + 1) = (p : Int) + 1 := IntWalk.i64_in _ (by omega)
          cases hf : pcAmong cs.data.toList cs.size x with
          | true =>
            have Hs := Lib.hid (pcLen_atYes (p := fun b => cs.data.toList.contains b) hlt (by rw [hx, ← among_all]; exact hf))
            clear hf
            go_wp2
            go_roundw
            case rel => exact ⟨p + 1, by omega, rfl, by rw [← HRp.out]; unfold pcIs; rw [Hs.out]; omega, hbx⟩
            case measure => simp [intOf]; omega
          | false =>
            have Hs := Lib.hid (pcLen_atNo (p := fun b => cs.data.toList.contains b) hlt (by rw [hx, ← among_all]; exact hf))
            clear hf
            go_wp2
            go_ret
            refine ⟨?_, hbx⟩
            rw [← HRp.out]; unfold pcIs; rw [Hs.out]
            rfl
        | succ g =>
          have hi : i < cs.size := by omega
          have hii : (i : Int) < (cs.size : Int) := by omega
          have Hn := Lib.hid (among_succ cs i hi x)
          have Wi : IntKind.i64.wrap ((i : Int) + 1) = (i : Int) + 1 := IntWalk.i64_in _ (by omega)
          cases hf : pcAmong cs.data.toList i x with
          | true =>
            have Hf := Lib.hid hf
            clear hf
            go_wp2
            go_quiet (fail)
            go_wp2
            go_roundg g
            case measure => omega
            case rel => exact ⟨i + 1, by omega, rfl, by rw [Hn.out, Hf.out]; rfl, below_drewN hbx _⟩
          | false =>
            have Hf := Lib.hid hf
            clear hf
            go_wp2
            go_quiet (fail)
            go_wp2
            go_roundg g
            case measure => omega
            case rel => exact ⟨i + 1, by omega, rfl, by rw [Hn.out, Hf.out, Bool.false_or, ← byte_beq], below_drewN hbx _⟩
    · have hlti : ¬ (p : Int) < (s.size : Int) := by omega
      have Hs := Lib.hid (pcLen_atEnd (fun b => cs.data.toList.contains b) (s := s) (k := p) (by omega))
      go_wp2
      go_ret
      refine ⟨?_, hbw⟩
      rw [← HRp.out]; unfold pcIs; rw [Hs.out]
      rfl
end Go.Proofs.YtbhmpdbcjchdfaaDoor
