/- The statement BracketNots, walked. -/
import Derived.Test.YtehikndlcepkgaaDoorBrAwake
import Derived.Test.YtehikndlcepkgaaDoorBrHold
import Derived.Test.YtehikndlcepkgaaDoorBrShift
namespace Go.Proofs.YtehikndlcepkgaaDoor
open Go.RowKit

set_option linter.unusedSimpArgs false in
set_option maxRecDepth 100000 in
set_option maxHeartbeats 2000000 in
theorem nots_long (s : ByteArray) (h : 300 < s.size) (w : World) (hG : Gl w) :
    Calls Tryd.prog 4 #[.string s] w fun e w' => e = .returned (.bool true) ∧ Below w.heap.size w w' := by
  have e1 : decide ((300 : Int) < (s.size : Int)) = true := decide_eq_true (by omega)
  have e2 : decide (300 < s.size) = true := decide_eq_true h
  go_enter Tryd.func4, Tryd.ntmps4
  go_wp2_with fail
  refine (awake_any _ hG).mono ?_
  rintro e w1 ⟨rfl, hW⟩
  go_wp2_with fail
  refine (awake_any _ (hG.up hW)).mono ?_
  rintro e w2 ⟨rfl, b2⟩
  go_wp2_with fail
  go_ret
  exact ⟨rfl, hW.trans (b2.mono hW.size)⟩
set_option linter.unusedSimpArgs false in
set_option maxRecDepth 100000 in
set_option maxHeartbeats 2000000 in
theorem nots_empty (w : World) (hG : Gl w) :
    Calls Tryd.prog 4 #[.string ⟨#[]⟩] w fun e w' => e = .returned (.bool true) ∧ Below w.heap.size w w' := by
  go_enter Tryd.func4, Tryd.ntmps4
  go_wp2_with fail
  refine (awake_any _ hG).mono ?_
  rintro e w1 ⟨rfl, hW⟩
  go_wp2_with fail
  refine (awake_any _ (hG.up hW)).mono ?_
  rintro e w2 ⟨rfl, b2⟩
  go_wp2_with fail
  go_ret
  exact ⟨rfl, hW.trans (b2.mono hW.size)⟩
theorem nz_test (s : ByteArray) (h : 0 < s.size) : s.toList.isEmpty = false := by
  rw [ByteArray.toList_eq]
  cases hl : s.data.toList with
  | nil => have := plist_size s; rw [hl] at this; simp at this; omega
  | cons => rfl
set_option linter.unusedSimpArgs false in
set_option maxRecDepth 100000 in
set_option maxHeartbeats 2000000 in
theorem nots_caret (s : ByteArray) (h : s.size ≤ 300) (h0 : 0 < s.size) (h94 : ((s[0].toNat : Int) == 94) = true) (w : World) (hG : Gl w) :
    Calls Tryd.prog 4 #[.string s] w fun e w' => e = .returned (.bool true) ∧ Below w.heap.size w w' := by
  have e1 : decide ((300 : Int) < (s.size : Int)) = false := decide_eq_false (by omega)
  have e2 : decide (300 < s.size) = false := decide_eq_false (by omega)
  have e3 := nz_test s h0
  go_enter Tryd.func4, Tryd.ntmps4
  go_wp2_with fail
  refine (awake_any _ hG).mono ?_
  rintro e w1 ⟨rfl, hW⟩
  go_wp2_with fail
  refine (awake_any _ (hG.up hW)).mono ?_
  rintro e w2 ⟨rfl, b2⟩
  go_wp2_with fail
  go_ret
  exact ⟨rfl, hW.trans (b2.mono hW.size)⟩
set_option linter.unusedSimpArgs false in
set_option maxRecDepth 100000 in
set_option maxHeartbeats 4000000 in
theorem nots_main (s : ByteArray) (h : s.size ≤ 300) (h0 : 0 < s.size) (h94 : ((s[0].toNat : Int) == 94) = false) (w : World) (hG : Gl w) :
    Calls Tryd.prog 4 #[.string s] w fun e w' => e = .returned (.bool true) ∧ Below w.heap.size w w' := by
  have e1 : decide ((300 : Int) < (s.size : Int)) = false := decide_eq_false (by omega)
  have e2 : decide (300 < s.size) = false := decide_eq_false (by omega)
  have e3 := nz_test s h0
  go_enter Tryd.func4, Tryd.ntmps4
  go_wp2_with fail
  refine (awake_any _ hG).mono ?_
  rintro e w1 ⟨rfl, hW⟩
  have hG1 := hG.up hW
  go_wp2_with fail
  have h94' : byt s.data.toList 0 ≠ 94 := by
    rw [pbyt_at s 0 h0]
    simp at h94
    omega
  obtain ⟨t, j, er, hp1, hcs⟩ := prs_nots s.data.toList (by rw [plist_size]; exact h0) h94'
  have hpa := parse_any s 0 w1 (by omega) hG1
  rw [hp1] at hpa
  refine hpa.mono ?_
  clear hpa hp1 hG1 h94'
  rintro e w2 ⟨rfl, b2⟩
  replace hW := hW.trans (b2.mono hW.size)
  clear b2
  have hG2 := (hG.up hW).up ((Below.refl w2.heap.size w2).alloc (Nat.le_refl _) (.cells (oc t) 25))
  have hl2 : ((⟨#[94]⟩ : ByteArray) ++ s).data.toList = 94 :: s.data.toList := by simp [ByteArray.data_append]
  have hz2 : ((⟨#[94]⟩ : ByteArray) ++ s).size ≤ 1000000 := by
    rw [← plist_size, hl2, List.length_cons, plist_size]; omega
  have hpb := parse_any ((⟨#[94]⟩ : ByteArray) ++ s) 0 _ hz2 hG2
  rw [hl2] at hpb
  clear hl2 hz2 hG2
  have hA := Blk.new w2 (oc t) 25 _ rfl
  replace hW := hW.alloc hW.size (.cells (oc t) 25)
  unfold prV
  go_wp2_with fail
  rcases hcs with ⟨rfl, hj, hp2⟩ | ⟨hne, p, hp2⟩
  · rw [hp2] at hpb
    have Wj : IntKind.i64.wrap ((j : Int) + 1) = ((j + 1 : Nat) : Int) := by
      rw [plist_size] at hj
      rw [IntWalk.i64_in _ (by omega)]
      omega
    obtain ⟨nt, hnt⟩ : ∃ nt, ~~~t = nt := ⟨_, rfl⟩
    have hna : ∀ w, Calls Tryd.prog 11 #[.agg #[.int .u64 (ow nt 0), .int .u64 (ow nt 1), .int .u64 (ow nt 2), .int .u64 (ow nt 3)]] w fun e w' => e = .returned (.agg #[.int .u64 (ow t 0), .int .u64 (ow t 1), .int .u64 (ow t 2), .int .u64 (ow t 3)]) ∧ Below w.heap.size w w' := fun w => by
      have := not_any nt w
      rw [show ~~~nt = t by rw [← hnt]; exact BitVec.not_not] at this
      exact this
    rw [hnt] at hpb
    refine hpb.mono ?_
    clear hpb hp2 hnt
    rintro e w3 ⟨rfl, b3⟩
    replace hW := hW.trans (b3.mono hW.size)
    replace hA := hA.below b3 hA.lt
    have hB := Blk.new w3 (oc nt) 25 _ rfl
    clear b3
    have hall := Hold2.all (w0 := w) (a := w2.heap.size) (b := w3.heap.size) (s := t) (t := nt) (T := 25) (U := 25) (w' := w3.alloc (.cells (oc nt) 25)) ⟨hW.alloc hW.size _, hA.alloc _, hB⟩
    clear hW hA hB
    have hq := fun w => (oset_eql t t w).trans (by rw [decide_eq_true rfl])
    unfold prV
    go_wp2_with fail
    go_region_held3 (fun w' => (w'.cell? ⟨w2.heap.size, 0, none⟩ = some (.int .u64 (ow t 0)) ∧ w'.cell? ⟨w2.heap.size, 1, none⟩ = some (.int .u64 (ow t 1)) ∧ w'.cell? ⟨w2.heap.size, 2, none⟩ = some (.int .u64 (ow t 2)) ∧ w'.cell? ⟨w2.heap.size, 3, none⟩ = some (.int .u64 (ow t 3))) ∧ (w'.cell? ⟨w3.heap.size, 0, none⟩ = some (.int .u64 (ow nt 0)) ∧ w'.cell? ⟨w3.heap.size, 1, none⟩ = some (.int .u64 (ow nt 1)) ∧ w'.cell? ⟨w3.heap.size, 2, none⟩ = some (.int .u64 (ow nt 2)) ∧ w'.cell? ⟨w3.heap.size, 3, none⟩ = some (.int .u64 (ow nt 3))) ∧ Hold2 w w2.heap.size w3.heap.size t nt 25 25 w')
      (first | exact hall | exact readH2_drew hall | exact readH2_step hbX (by assumption) | exact readH2_drew (by assumption))
      (first | (go_at_call 11; refine (hna _).mono ?_; rintro e w' ⟨rfl, hbX⟩))
    go_wp2_with fail
    go_ret
    clear hall
    go_split_ands
    exact ⟨rfl, Hold2.below (by assumption)⟩
  · rw [hp2] at hpb
    have r1 : ((er : Int) != (er : Int)) = false := by simp
    have r2 : ((er : Int) != 0) = true := by simp; omega
    refine hpb.mono ?_
    clear hpb hp2
    rintro e w3 ⟨rfl, b3⟩
    replace hW := hW.trans (b3.mono hW.size)
    clear b3
    unfold prV
    go_wp2_with fail
    go_region
    go_wp2_with fail
    go_ret
    refine ⟨rfl, ?_⟩
    repeat (first | (with_reducible exact hW) | refine Below.drew ?_ | refine Below.alloc ?_ hW.size _)
theorem nots_any (s : ByteArray) (_ : s.size ≤ maxLen) (w : World) (hG : Gl w) :
    Calls Tryd.prog 4 #[.string s] w fun e w' => e = .returned (.bool true) ∧ Below w.heap.size w w' := by
  by_cases h : 300 < s.size
  · exact nots_long s h w hG
  · by_cases h0 : 0 < s.size
    · cases h94 : ((s[0].toNat : Int) == 94)
      · exact nots_main s (by omega) h0 h94 w hG
      · exact nots_caret s (by omega) h0 h94 w hG
    · obtain rfl : s = ⟨#[]⟩ := ByteArray.ext (by
        apply Array.eq_empty_of_size_eq_zero
        have : s.data.size = s.size := rfl
        omega)
      exact nots_empty w hG
end Go.Proofs.YtehikndlcepkgaaDoor
