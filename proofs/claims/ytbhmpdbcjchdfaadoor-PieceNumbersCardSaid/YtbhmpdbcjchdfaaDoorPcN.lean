/- Package piece, walked: names. -/
import Derived.Test.YtbhmpdbcjchdfaaDoorPcI
namespace Go.Proofs.YtbhmpdbcjchdfaaDoor
open Go.RowKit

theorem pcEnder_is (label : Bool) (b : UInt8) : (if label then [10, 59] else [10] : List UInt8).contains b = pcEnder label b := by
  cases label with
  | false =>
    show List.elem b [10] = (b == 10 || (false && b == 59))
    cases h : (b == 10) <;> simp only [List.elem, h, Bool.false_and, Bool.or_false]
  | true =>
    show List.elem b [10, 59] = (b == 10 || (true && b == 59))
    cases h : (b == 10) <;> cases h2 : (b == 59) <;> simp only [List.elem, h, h2, Bool.true_and, Bool.or_false, Bool.or_true]

set_option maxHeartbeats 1000000 in
theorem pnameEnd_at (s : ByteArray) (k : Nat) (label : Bool) (w : World) (hs : s.size ≤ 4000000) (hk : k ≤ s.size) :
    Calls Tryd.prog 27 #[.string s, .int .i64 k, .bool label] w fun e w' => e = .returned (.int .i64 ((k + pcEnd label (s.data.toList.drop k) : Nat) : Int)) ∧ Below w.heap.size w w' := by
  have hI := indexAny_any (s.extract k s.size) label w (by simp; omega)
  rw [extractEnd_list, indexAny_len] at hI
  have hf : (fun b => !(if label then [10, 59] else [10] : List UInt8).contains b) = fun b => !pcEnder label b := funext fun b => by rw [pcEnder_is]
  rw [hf] at hI
  have hle := pcLen_le (fun b => !pcEnder label b) (s.data.toList.drop k)
  rw [List.length_drop, ← size_list] at hI hle
  unfold pcEnd
  generalize pcLen (fun b => !pcEnder label b) (s.data.toList.drop k) = m at hI hle ⊢
  clear hf
  by_cases hm : m < s.size - k
  · rw [if_pos hm] at hI
    have h0 : (0 : Int) ≤ (m : Int) := by omega
    have hW : IntKind.i64.wrap ((k : Int) + (m : Int)) = ((k + m : Nat) : Int) := by rw [IntWalk.i64_in _ (by omega)]; omega
    go_enter Tryd.func27, Tryd.ntmps27
    cases label
    · go_wp2_with (go_at_call 34; refine hI.mono ?_; rintro e w1 ⟨rfl, hb⟩)
      go_ret
      exact ⟨by go_num, hb⟩
    · go_wp2_with (go_at_call 34; refine hI.mono ?_; rintro e w1 ⟨rfl, hb⟩)
      go_ret
      exact ⟨by go_num, hb⟩
  · rw [if_neg hm] at hI
    have hE : ((k + m : Nat) : Int) = (s.size : Int) := by omega
    rw [hE]
    go_enter Tryd.func27, Tryd.ntmps27
    cases label
    · go_wp2_with (go_at_call 34; refine hI.mono ?_; rintro e w1 ⟨rfl, hb⟩)
      go_ret
      exact ⟨rfl, hb⟩
    · go_wp2_with (go_at_call 34; refine hI.mono ?_; rintro e w1 ⟨rfl, hb⟩)
      go_ret
      exact ⟨rfl, hb⟩

set_option maxHeartbeats 1000000 in
theorem pname_at (s : ByteArray) (k : Nat) (label : Bool) (w : World) (hs : s.size ≤ 4000000) (hk : k ≤ s.size) :
    Calls Tryd.prog 17 #[.string s, .int .i64 k, .bool label] w fun e w' => e = pcA (pcName s.data.toList k label) ∧ Below w.heap.size w w' := by
  have hP := place_yes s k w hk
  have hE := pnameEnd_at s k label w hs hk
  have hle := pcLen_dropLe (fun b => !pcEnder label b) s k hk
  have hR : pcName s.data.toList k label = pcNameOf (Lib.trimS ((s.data.toList.drop k).take (pcEnd label (s.data.toList.drop k))) [32, 9]) k (k + pcEnd label (s.data.toList.drop k)) := rfl
  rw [hR]
  clear hR
  have hle' : k + pcEnd label (s.data.toList.drop k) ≤ s.size := hle
  clear hle
  generalize pcEnd label (s.data.toList.drop k) = m at hE hle' ⊢
  have hT := fun w => trim_k (s.extract k (k + m)) ⟨#[32, 9]⟩ w (by simp; omega) (by decide) asc_blanks
  rw [extract_list2, show k + m - k = m by omega] at hT
  rw [show (⟨#[32, 9]⟩ : ByteArray).data.toList = [32, 9] from rfl] at hT
  generalize Lib.trimS ((s.data.toList.drop k).take m) [32, 9] = n at hT ⊢
  have hns := txt_size n
  obtain ⟨E, hEE⟩ : ∃ E : Nat, k + m = E := ⟨_, rfl⟩
  rw [hEE] at hE hT hle' ⊢
  have hE0 : (k : Int) ≤ (E : Int) := by omega
  have hE1 : (E : Int) ≤ (s.size : Int) := by omega
  have hE2 : k ≤ E := by omega
  obtain ⟨R, hRR⟩ : ∃ R, pcNameOf n k E = R := ⟨_, rfl⟩
  rw [hRR]
  unfold pcNameOf at hRR
  have HR := Lib.hid hRR
  clear hRR hEE
  have hb0 : ((txt n).toList == []) = n.isEmpty := by rw [ByteArray.toList_eq, txt_list]; cases n <;> rfl
  have hb1 : (txt n).toList.isEmpty = n.isEmpty := by rw [ByteArray.toList_eq, txt_list]
  obtain ⟨r, hr⟩ : ∃ r, txt n = r := ⟨_, rfl⟩
  rw [hr] at hT hns hb0 hb1
  have Hr := Lib.hid hr
  clear hr
  go_enter Tryd.func17, Tryd.ntmps17
  by_cases hn : n = []
  · have c0 : (r.toList == []) = true := by rw [hb0, hn]; rfl
    have c1 : r.toList.isEmpty = true := by rw [hb1, hn]; rfl
    have c2 : r.toList = [] := List.isEmpty_iff.1 c1
    have Hn := Lib.hid hn
    clear hb0 hb1 hn
    go_wp2_with (first
      | (go_at_call 21; refine hP.mono ?_; rintro e w' ⟨rfl, rfl⟩)
      | (go_at_call 27; refine hE.mono ?_; rintro e w1 ⟨rfl, hb⟩)
      | (go_at_call 28; refine (hT _).mono ?_; rintro e w2 ⟨rfl, hb2⟩))
    go_ret3
    refine ⟨?_, hb.trans (hb2.mono hb.size)⟩
    rw [← HR.out, if_pos Hn.out]
    rfl
  · have c1 : r.toList.isEmpty = false := by rw [hb1]; cases n <;> simp_all
    have c0 : (r.toList == []) = false := by rw [hb0, ← hb1]; exact c1
    have c2 : ¬ r.toList = [] := fun h => by rw [h] at c1; cases c1
    have Hn := Lib.hid hn
    clear hb0 hb1 hn
    by_cases h40 : 40 < n.length
    · have h40' : (40 : Int) < (r.size : Int) := by omega
      go_wp2_with (first
        | (go_at_call 21; refine hP.mono ?_; rintro e w' ⟨rfl, rfl⟩)
        | (go_at_call 27; refine hE.mono ?_; rintro e w1 ⟨rfl, hb⟩)
        | (go_at_call 28; refine (hT _).mono ?_; rintro e w2 ⟨rfl, hb2⟩))
      go_ret3
      refine ⟨?_, hb.trans (hb2.mono hb.size)⟩
      rw [← HR.out, if_neg Hn.out, if_pos h40]
      rfl
    · have h40' : ¬ (40 : Int) < (r.size : Int) := by omega
      go_wp2_with (first
        | (go_at_call 21; refine hP.mono ?_; rintro e w' ⟨rfl, rfl⟩)
        | (go_at_call 27; refine hE.mono ?_; rintro e w1 ⟨rfl, hb⟩)
        | (go_at_call 28; refine (hT _).mono ?_; rintro e w2 ⟨rfl, hb2⟩))
      go_ret3
      refine ⟨?_, hb.trans (hb2.mono hb.size)⟩
      rw [← HR.out, if_neg Hn.out, if_neg h40]
      exact pcA_mk Hr.out.symm rfl rfl
theorem pname_no (s : ByteArray) (a : Int) (label : Bool) (w : World) (h : ¬ (0 ≤ a ∧ a ≤ (s.size : Int))) :
    Calls Tryd.prog 17 #[.string s, .int .i64 a, .bool label] w fun e w' => e = pcA ([], 0, 1) ∧ Below w.heap.size w w' := by
  have hP := place_no s a w h
  clear h
  go_enter Tryd.func17, Tryd.ntmps17
  go_wp2_with (go_at_call 21; refine hP.mono ?_; rintro e w' ⟨rfl, rfl⟩)
  go_ret3
  exact ⟨rfl, Below.refl _ _⟩
end Go.Proofs.YtbhmpdbcjchdfaaDoor
