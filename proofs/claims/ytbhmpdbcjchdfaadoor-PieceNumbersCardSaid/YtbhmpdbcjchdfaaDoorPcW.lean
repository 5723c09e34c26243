/- Package piece, walked: places, what stands there of some bytes, numbers. -/
import Derived.Test.YtbhmpdbcjchdfaaDoorPcLy
import Derived.WalkKit
import Derived.WalkSpells
import Derived.WalkLawsBesides
import Derived.BigCall
import Derived.BigQuiet
import Derived.Deep.QuietTactic
import Derived.Lib.Hide
namespace Go.Proofs.YtbhmpdbcjchdfaaDoor
open Go.RowKit

theorem extractEnd_list (s : ByteArray) (k : Nat) : (s.extract k s.size).data.toList = s.data.toList.drop k := Lib.extract_to_end s k
theorem extract_list2 (s : ByteArray) (k e : Nat) : (s.extract k e).data.toList = (s.data.toList.drop k).take (e - k) := by
  rw [ByteArray.data_extract, Array.toList_extract, List.extract_eq_take_drop]

theorem place_yes (s : ByteArray) (k : Nat) (w : World) (h : k ≤ s.size) : Calls Tryd.prog 21 #[.string s, .int .i64 k] w fun e w' => e = .returned (.bool true) ∧ w' = w := by
  go_enter Tryd.func21, Tryd.ntmps21
  have h0 : (0 : Int) ≤ (k : Int) := by omega
  have h1 : (k : Int) ≤ (s.size : Int) := by omega
  go_wp2
  go_ret
  exact ⟨rfl, rfl⟩
theorem place_no (s : ByteArray) (a : Int) (w : World) (h : ¬ (0 ≤ a ∧ a ≤ (s.size : Int))) : Calls Tryd.prog 21 #[.string s, .int .i64 a] w fun e w' => e = .returned (.bool false) ∧ w' = w := by
  go_enter Tryd.func21, Tryd.ntmps21
  by_cases h0 : (0 : Int) ≤ a
  · have h1 : ¬ a ≤ (s.size : Int) := fun h1 => h ⟨h0, h1⟩
    clear h
    go_wp2
    go_ret
    exact ⟨rfl, rfl⟩
  · clear h
    go_wp2
    go_ret
    exact ⟨rfl, rfl⟩

set_option maxHeartbeats 1000000 in
theorem pbehind_at (s cs : ByteArray) (k : Nat) (w : World) (hs : s.size ≤ 4000000) (hk : k ≤ s.size) (hcs : cs.size < 4294967281) (ha : ∀ (j : Nat) b, cs.data.toList[j]? = some b → b.toNat < 128) :
    Calls Tryd.prog 22 #[.string s, .int .i64 k, .string cs] w fun e w' => e = .returned (.int .i64 ((k + pcIs cs.data.toList (s.data.toList.drop k) : Nat) : Int)) ∧ Below w.heap.size w w' := by
  have hP := place_yes s k w hk
  have hT := trimLeft_k (s.extract k s.size) cs w hcs ha
  rw [extractEnd_list] at hT
  have ht := pcIs_trim cs.data.toList (s.data.toList.drop k)
  rw [List.length_drop, ← size_list] at ht
  obtain ⟨m, hm⟩ : ∃ m, pcIs cs.data.toList (s.data.toList.drop k) = m := ⟨_, rfl⟩
  rw [hm] at ht ⊢
  obtain ⟨r, hr⟩ : ∃ r, txt (Lib.trimLeftS (s.data.toList.drop k) cs.data.toList) = r := ⟨_, rfl⟩
  have hrs : r.size + m = s.size - k := by rw [← hr, txt_size]; exact ht
  rw [hr] at hT
  clear hr ht hm ha
  have hsum : IntKind.i64.wrap ((s.size : Int) - (r.size : Int)) = ((k + m : Nat) : Int) := by rw [IntWalk.i64_in _ (by omega)]; omega
  go_enter Tryd.func22, Tryd.ntmps22
  go_wp2_with (first
    | (go_at_call 21; refine hP.mono ?_; rintro e w' ⟨rfl, rfl⟩)
    | (go_at_call 32; refine hT.mono ?_; rintro e w1 ⟨rfl, hb⟩))
  go_ret
  exact ⟨by go_num, hb⟩
theorem pbehind_no (s cs : ByteArray) (a : Int) (w : World) (h : ¬ (0 ≤ a ∧ a ≤ (s.size : Int))) :
    Calls Tryd.prog 22 #[.string s, .int .i64 a, .string cs] w fun e w' => e = .returned (.int .i64 0) ∧ Below w.heap.size w w' := by
  have hP := place_no s a w h
  clear h
  go_enter Tryd.func22, Tryd.ntmps22
  go_wp2_with (go_at_call 21; refine hP.mono ?_; rintro e w' ⟨rfl, rfl⟩)
  go_ret
  exact ⟨rfl, Below.refl _ _⟩

theorem asc_blanks : ∀ (j : Nat) b, (⟨#[32, 9]⟩ : ByteArray).data.toList[j]? = some b → b.toNat < 128 := ascii_of_all (by decide)
theorem asc_space : ∀ (j : Nat) b, (⟨#[32, 9, 10, 59]⟩ : ByteArray).data.toList[j]? = some b → b.toNat < 128 := ascii_of_all (by decide)
theorem asc_digits : ∀ (j : Nat) b, (⟨#[48, 49, 50, 51, 52, 53, 54, 55, 56, 57]⟩ : ByteArray).data.toList[j]? = some b → b.toNat < 128 := ascii_of_all (by decide)

theorem pblanks_any (s : ByteArray) (a : Int) (w : World) (hs : s.size ≤ 4000000) :
    Calls Tryd.prog 11 #[.string s, .int .i64 a] w fun e w' => e = .returned (.int .i64 (pcBehind [32, 9] s.data.toList a : Nat)) ∧ Below w.heap.size w w' := by
  have hB : Calls Tryd.prog 22 #[.string s, .int .i64 a, .string ⟨#[32, 9]⟩] w fun e w' => e = .returned (.int .i64 (pcBehind [32, 9] s.data.toList a : Nat)) ∧ Below w.heap.size w w' := by
    by_cases h : 0 ≤ a ∧ a ≤ (s.size : Int)
    · obtain ⟨k, rfl⟩ : ∃ k : Nat, a = k := ⟨a.toNat, by omega⟩
      rw [pcBehind_at _ _ _ (by rw [← size_list]; omega)]
      exact pbehind_at s ⟨#[32, 9]⟩ k w hs (by omega) (by decide) asc_blanks
    · rw [pcBehind_no _ _ _ (by rw [← size_list]; exact h)]
      exact pbehind_no s ⟨#[32, 9]⟩ a w h
  generalize pcBehind [32, 9] s.data.toList a = r at hB ⊢
  go_enter Tryd.func11, Tryd.ntmps11
  go_wp2_with (go_at_call 22; refine hB.mono ?_; rintro e w1 ⟨rfl, hb⟩)
  go_ret
  exact ⟨rfl, hb⟩
theorem pspace_any (s : ByteArray) (a : Int) (w : World) (hs : s.size ≤ 4000000) :
    Calls Tryd.prog 13 #[.string s, .int .i64 a] w fun e w' => e = .returned (.int .i64 (pcBehind [32, 9, 10, 59] s.data.toList a : Nat)) ∧ Below w.heap.size w w' := by
  have hB : Calls Tryd.prog 22 #[.string s, .int .i64 a, .string ⟨#[32, 9, 10, 59]⟩] w fun e w' => e = .returned (.int .i64 (pcBehind [32, 9, 10, 59] s.data.toList a : Nat)) ∧ Below w.heap.size w w' := by
    by_cases h : 0 ≤ a ∧ a ≤ (s.size : Int)
    · obtain ⟨k, rfl⟩ : ∃ k : Nat, a = k := ⟨a.toNat, by omega⟩
      rw [pcBehind_at _ _ _ (by rw [← size_list]; omega)]
      exact pbehind_at s ⟨#[32, 9, 10, 59]⟩ k w hs (by omega) (by decide) asc_space
    · rw [pcBehind_no _ _ _ (by rw [← size_list]; exact h)]
      exact pbehind_no s ⟨#[32, 9, 10, 59]⟩ a w h
  generalize pcBehind [32, 9, 10, 59] s.data.toList a = r at hB ⊢
  go_enter Tryd.func13, Tryd.ntmps13
  go_wp2_with (go_at_call 22; refine hB.mono ?_; rintro e w1 ⟨rfl, hb⟩)
  go_ret
  exact ⟨rfl, hb⟩

/-- An answer of two numbers and an error; one of a text, a place, and an error. -/
abbrev ans3 (r : Nat × Nat × Nat) : Ending := .returned (.tuple #[.int .i64 (r.1 : Nat), .int .i64 (r.2.1 : Nat), .int .i64 (r.2.2 : Nat)])
abbrev pcA (r : PcAns) : Ending := .returned (.tuple #[.string (txt r.1), .int .i64 (r.2.1 : Nat), .int .i64 (r.2.2 : Nat)])
theorem pcA_mk {t : ByteArray} {n e : Int} {r : PcAns} (h1 : t = txt r.1) (h2 : n = (r.2.1 : Nat)) (h3 : e = (r.2.2 : Nat)) : Ending.returned (.tuple #[.string t, .int .i64 n, .int .i64 e]) = pcA r := by rw [h1, h2, h3]
theorem ans3_mk {t n e : Int} {r : Nat × Nat × Nat} (h1 : t = (r.1 : Nat)) (h2 : n = (r.2.1 : Nat)) (h3 : e = (r.2.2 : Nat)) : Ending.returned (.tuple #[.int .i64 t, .int .i64 n, .int .i64 e]) = ans3 r := by rw [h1, h2, h3]

set_option maxHeartbeats 4000000 in
theorem pnumber_at (s : ByteArray) (k : Nat) (w : World) (hs : s.size ≤ 4000000) (hk : k ≤ s.size) :
    Calls Tryd.prog 9 #[.string s, .int .i64 k] w fun e w' => e = ans3 (pcNum s.data.toList k) ∧ Below w.heap.size w w' := by
  have hP := place_yes s k w hk
  have hB := pbehind_at s ⟨#[48, 49, 50, 51, 52, 53, 54, 55, 56, 57]⟩ k w hs hk (by decide) asc_digits
  rw [show (⟨#[48, 49, 50, 51, 52, 53, 54, 55, 56, 57]⟩ : ByteArray).data.toList = pcDigits from rfl] at hB
  have hle := pcLen_dropLe (fun b => pcDigits.contains b) s k hk
  have hbf := pcLen_before (fun b => pcDigits.contains b) (s.data.toList.drop k)
  obtain ⟨m, hm⟩ : ∃ m, pcIs pcDigits (s.data.toList.drop k) = m := ⟨_, rfl⟩
  have hm' : pcLen (fun b => pcDigits.contains b) (s.data.toList.drop k) = m := hm
  rw [hm'] at hle hbf
  rw [hm] at hB
  have hN : pcNum s.data.toList k = if m = 0 then (0, k, 2) else if 9 < m then (0, k, 3) else (pcVal ((s.data.toList.drop k).take m), k + m, 0) := by unfold pcNum; rw [hm]
  obtain ⟨R, hR⟩ : ∃ R, pcNum s.data.toList k = R := ⟨_, rfl⟩
  rw [hR] at hN ⊢
  have HR := Lib.hid hN
  clear hN hm' hR
  have HB := Lib.hid hbf
  clear hbf
  go_enter Tryd.func9, Tryd.ntmps9
  by_cases h0 : m = 0
  · subst h0
    have hE : (((k + 0 : Nat) : Int) == (k : Int)) = true := by simp
    go_wp2_with (first
      | (go_at_call 21; refine hP.mono ?_; rintro e w' ⟨rfl, rfl⟩)
      | (go_at_call 22; refine hB.mono ?_; rintro e w1 ⟨rfl, hb⟩))
    go_ret3
    rw [HR.out]
    exact ⟨rfl, hb⟩
  · have hE : (((k + m : Nat) : Int) == (k : Int)) = false := beq_eq_false_iff_ne.2 (by omega)
    have hS : IntKind.i64.wrap (((k + m : Nat) : Int) - (k : Int)) = (m : Int) := by rw [IntWalk.i64_in _ (by omega)]; omega
    by_cases h9 : 9 < m
    · have h9' : (9 : Int) < (m : Int) := by omega
      go_wp2_with (first
        | (go_at_call 21; refine hP.mono ?_; rintro e w' ⟨rfl, rfl⟩)
        | (go_at_call 22; refine hB.mono ?_; rintro e w1 ⟨rfl, hb⟩))
      go_ret3
      rw [HR.out, if_neg h0, if_pos h9]
      exact ⟨rfl, hb⟩
    · have h9' : ¬ (9 : Int) < (m : Int) := by omega
      have hDl := extract_list2 s k (k + m)
      rw [show k + m - k = m by omega] at hDl
      have hDs : (s.extract k (k + m)).size = m := by simp; omega
      obtain ⟨D, hD⟩ : ∃ D, s.extract k (k + m) = D := ⟨_, rfl⟩
      rw [hD] at hDl hDs
      go_wp2_with (first
        | (go_at_call 21; refine hP.mono ?_; rintro e w' ⟨rfl, rfl⟩)
        | (go_at_call 22; refine hB.mono ?_; rintro e w1 ⟨rfl, hb⟩))
      go_loopg [8, 10] m (fun g n _ wx => ∃ i : Nat, i + g = m ∧ n = .int .i64 (pcVal (D.data.toList.take i) : Nat) ∧ wx = w1.iter D i)
      case atStart => exact ⟨0, by omega, rfl, rfl⟩
      case round =>
        obtain ⟨i, hig, rfl, rfl⟩ := hrel
        cases gk with
        | zero =>
          obtain rfl : i = m := by omega
          have hnx := fun ty => run_next_end (P := Tryd.prog) w1 D i ty (by omega)
          go_wp2
          go_ret3
          refine ⟨?_, hb.alloc hb.size _⟩
          rw [HR.out, if_neg h0, if_neg h9, ← hDl, List.take_of_length_le (by rw [← size_list, hDs]; exact Nat.le_refl _)]
          rfl
        | succ g =>
          have hi : i < D.size := by omega
          have hx : D.data.toList[i]? = some D[i] := Lib.data_getElem? D i hi
          have hdig : pcDigits.contains D[i] = true := HB.out i D[i] (by omega) (by rw [hDl, List.getElem?_take_of_lt (by omega)] at hx; exact hx)
          rw [pcDigits_iff] at hdig
          simp only [Bool.and_eq_true, decide_eq_true_eq] at hdig
          have hnx := fun ty => run_next_ascii (P := Tryd.prog) w1 D i ty hi (by omega)
          have hlt : pcVal (D.data.toList.take i) < 1000000000 := by
            refine pcVal_nine _ (fun b hb => ?_) (by rw [List.length_take]; omega)
            obtain ⟨j, hj, he⟩ := List.mem_iff_getElem.1 hb
            rw [List.length_take] at hj
            have hj2 : j < D.data.toList.length := by omega
            refine HB.out j b (by omega) ?_
            have h3 : D.data.toList[j]? = some b := by rw [List.getElem?_eq_getElem hj2, ← he, List.getElem_take]
            rw [hDl, List.getElem?_take_of_lt (by omega)] at h3
            exact h3
          have Hn := Lib.hid (show pcVal (D.data.toList.take (i + 1)) = pcVal (D.data.toList.take i) * 10 + (D[i].toNat - 48) by
            rw [List.take_add_one, hx, Option.toList_some, pcVal_snoc])
          obtain ⟨v, hv⟩ : ∃ v, pcVal (D.data.toList.take i) = v := ⟨_, rfl⟩
          rw [hv] at hlt Hn ⊢
          clear hx hv
          have W1 : IntKind.i64.wrap (10 * (v : Int)) = 10 * (v : Int) := IntWalk.i64_in _ (by omega)
          go_wp2
          go_roundg g
          case measure => omega
          case rel =>
            refine ⟨i + 1, by omega, ?_, rfl⟩
            rw [Hn.out]
            exact congrArg (Value.int .i64) (by omega)
theorem pnumber_no (s : ByteArray) (a : Int) (w : World) (h : ¬ (0 ≤ a ∧ a ≤ (s.size : Int))) :
    Calls Tryd.prog 9 #[.string s, .int .i64 a] w fun e w' => e = ans3 (0, 0, 1) ∧ Below w.heap.size w w' := by
  have hP := place_no s a w h
  clear h
  go_enter Tryd.func9, Tryd.ntmps9
  go_wp2_with (go_at_call 21; refine hP.mono ?_; rintro e w' ⟨rfl, rfl⟩)
  go_ret3
  exact ⟨rfl, Below.refl _ _⟩
end Go.Proofs.YtbhmpdbcjchdfaaDoor
