/- The program's bracket expressions, walked: an item, or the range that begins with it. -/
import Derived.Test.YtbbcjclkklmoaaaDoorBrProgD
import Derived.Test.YtbbcjclkklmoaaaDoorOctHeld
namespace Go.Proofs.YtbbcjclkklmoaaaDoor
open Go.RowKit

theorem itm_set (s : List UInt8) (k : Nat) (h : (itm s k).err ≠ 0) : (itm s k).set = oz := by
  unfold itm at h ⊢
  split
  · rfl
  · rename_i hk
    rw [if_neg hk] at h
    split
    · rename_i ho
      rw [if_pos ho] at h
      split
      · rename_i e he
        rw [he] at h
        simp only at h
        unfold boxed at h ⊢
        split
        · rename_i h1
          rw [if_pos h1] at h
          split
          · rename_i h2
            rw [if_pos h2] at h
            simp at h
          · rfl
        · rename_i h1
          rw [if_neg h1] at h
          split
          · rename_i h2
            rw [if_pos h2] at h
            simp at h
          · rfl
      · rfl
    · rename_i ho
      rw [if_neg ho] at h
      simp at h
/-- What parsePart, parseItems and Parse answer. -/
def ptV (t : OSet) (j er : Nat) : Value := .tuple #[.agg #[.int .u64 (ow t 0), .int .u64 (ow t 1), .int .u64 (ow t 2), .int .u64 (ow t 3)], .int .i64 (j : Int), .int .i64 (er : Int)]
theorem oset_eqz (s : OSet) (w : World) : (Op.equalIn 10000 57 (.agg #[.int .u64 (ow s 0), .int .u64 (ow s 1), .int .u64 (ow s 2), .int .u64 (ow s 3)]) (.agg #[.int .u64 0, .int .u64 0, .int .u64 0, .int .u64 0])).run Tryd.prog w = .ok (decide (s = oz)) w := by
  have h := oset_eql s oz w
  rw [ow_zero, ow_zero, ow_zero, ow_zero] at h
  exact h
set_option linter.unusedSimpArgs false in
set_option maxRecDepth 100000 in
set_option maxHeartbeats 2000000 in
/-- What the first item alone decides: an error, or no range behind it. -/
theorem part_one (s : ByteArray) (k : Nat) (w : World) (hs : s.size ≤ 1000000) (hk : k < s.size) (hG : Gl w) (A : OSet) (ma : Bool) (nx er : Nat)
    (hv : pgI (itm s.data.toList k) = pgV A ma nx er) (hd : er ≠ 0 ∨ (nx ≤ s.size ∧ dsh s.data.toList nx = false)) :
    Calls Tryd.prog 104 #[.string s, .int .i64 (k : Int)] w fun e w' => e = .returned (ptV A nx er) ∧ Below w.heap.size w w' := by
  have hB := Blk.new w #[.int .u64 0, .int .u64 0, .int .u64 0, .int .u64 0] 57 _ rfl; have hW := (Below.refl w.heap.size w).alloc (Nat.le_refl _) (.cells #[.int .u64 0, .int .u64 0, .int .u64 0, .int .u64 0] 57); have hG1 := hG.up hW
  go_enter Tryd.func104, Tryd.ntmps104
  go_wp2_with fail
  refine (pitem_any s k _ hs hk hG1).mono ?_
  rintro e w1 ⟨he, b1⟩
  rw [hv] at he
  subst he
  clear hv hG1
  replace hW := hW.trans (b1.mono hW.size)
  replace hB := hB.below b1 hB.lt
  clear b1
  obtain ⟨d0, d1, d2, d3⟩ := zblk_cells hB; have f0 := hB.frozen 0; have f1 := hB.frozen 1; have f2 := hB.frozen 2; have f3 := hB.frozen 3; have hlB := hB.lt
  unfold pgV
  by_cases her : er = 0
  · subst her
    obtain ⟨hnx, hdd⟩ := hd.resolve_left (by simp)
    clear hd
    go_wp2_with fail
    refine (dash_any s nx _ (by omega) hnx).mono ?_
    rintro e w2 ⟨he, b2⟩
    rw [hdd] at he
    subst he
    have hF := (Blk.new w1 #[.int .u64 (ow A 0), .int .u64 (ow A 1), .int .u64 (ow A 2), .int .u64 (ow A 3), .bool ma] 171 _ rfl).below b2 (by simp)
    replace hW := (hW.alloc hW.size (.cells #[.int .u64 (ow A 0), .int .u64 (ow A 1), .int .u64 (ow A 2), .int .u64 (ow A 3), .bool ma] 171)).trans (b2.mono (hW.alloc hW.size _).size)
    replace hB := (hB.alloc (.cells #[.int .u64 (ow A 0), .int .u64 (ow A 1), .int .u64 (ow A 2), .int .u64 (ow A 3), .bool ma] 171)).below b2 (hB.alloc _).lt
    clear b2 d0 d1 d2 d3 f0 f1 f2 f3 hlB
    obtain ⟨d0, d1, d2, d3⟩ := zblk_cells hB; have f0 := hB.frozen 0; have f1 := hB.frozen 1; have f2 := hB.frozen 2; have f3 := hB.frozen 3; have hlB := hB.lt
    obtain ⟨c0, c1, c2, c3, c4⟩ := iblk_cells hF; have hlF := hF.lt
    go_wp2_with fail
    refine bodyPost_ret (v := ptV A nx 0) (by simp [results, Tryd.results104, go_sem, d0, d1, d2, d3, ptV, hlB, ow_zero]) rfl ⟨rfl, ?_⟩
    repeat (first | (with_reducible exact hW) | refine Below.setCell ?_ (by first | omega | (simp; omega) | simp) _ | refine Below.alloc ?_ (by first | omega | (simp; omega) | simp) _)
  · have r1 : ((er : Int) != 0) = true := by simp; omega
    go_wp2_with fail
    refine bodyPost_ret (v := ptV A nx er) (by simp [results, Tryd.results104, go_sem, d0, d1, d2, d3, ptV, hlB, ow_zero]) rfl ⟨rfl, ?_⟩
    repeat (first | (with_reducible exact hW) | refine Below.setCell ?_ (by first | omega | (simp; omega) | simp) _ | refine Below.alloc ?_ (by first | omega | (simp; omega) | simp) _)
set_option linter.unusedSimpArgs false in
set_option maxRecDepth 100000 in
set_option maxHeartbeats 2000000 in
/-- A range: both items. -/
theorem part_two (s : ByteArray) (k : Nat) (w : World) (hs : s.size ≤ 1000000) (hk : k < s.size) (hG : Gl w) (A B : OSet) (ma mb : Bool) (nx n2 er : Nat)
    (hv : pgI (itm s.data.toList k) = pgV A ma nx 0) (hnx : nx + 1 < s.size) (hdd : dsh s.data.toList nx = true) (hv2 : pgI (itm s.data.toList (nx + 1)) = pgV B mb n2 er)
    (hA : ma = true → ∃ b : Nat, b < 256 ∧ A = oSpan b b) (hBb : mb = true → ∃ b : Nat, b < 256 ∧ B = oSpan b b) :
    Calls Tryd.prog 104 #[.string s, .int .i64 (k : Int)] w fun e w' => e = .returned (if er ≠ 0 then ptV oz n2 er else if spn A B ma mb = oz then ptV oz k 1 else ptV (spn A B ma mb) n2 0) ∧ Below w.heap.size w w' := by
  generalize hR : (if er ≠ 0 then ptV oz n2 er else if spn A B ma mb = oz then ptV oz k 1 else ptV (spn A B ma mb) n2 0) = R
  have HR := Lib.hid hR
  clear hR
  have hB := Blk.new w #[.int .u64 0, .int .u64 0, .int .u64 0, .int .u64 0] 57 _ rfl; have hW := (Below.refl w.heap.size w).alloc (Nat.le_refl _) (.cells #[.int .u64 0, .int .u64 0, .int .u64 0, .int .u64 0] 57); have hG1 := hG.up hW
  have Wn : IntKind.i64.wrap ((nx : Int) + 1) = ((nx + 1 : Nat) : Int) := by rw [IntWalk.i64_in _ (by omega)]; omega
  go_enter Tryd.func104, Tryd.ntmps104
  go_wp2_with fail
  refine (pitem_any s k _ hs hk hG1).mono ?_
  rintro e w1 ⟨he, b1⟩
  rw [hv] at he
  subst he
  clear hv hG1
  replace hW := hW.trans (b1.mono hW.size)
  replace hB := hB.below b1 hB.lt
  clear b1
  unfold pgV
  go_wp2_with fail
  refine (dash_any s nx _ (by omega) (by omega)).mono ?_
  rintro e w2 ⟨he, b2⟩
  rw [hdd] at he
  subst he
  have hF := (Blk.new w1 #[.int .u64 (ow A 0), .int .u64 (ow A 1), .int .u64 (ow A 2), .int .u64 (ow A 3), .bool ma] 171 _ rfl).below b2 (by simp); replace hW := (hW.alloc hW.size (.cells #[.int .u64 (ow A 0), .int .u64 (ow A 1), .int .u64 (ow A 2), .int .u64 (ow A 3), .bool ma] 171)).trans (b2.mono (hW.alloc hW.size _).size); replace hB := (hB.alloc (.cells #[.int .u64 (ow A 0), .int .u64 (ow A 1), .int .u64 (ow A 2), .int .u64 (ow A 3), .bool ma] 171)).below b2 (hB.alloc _).lt; clear b2
  have hlB := hB.lt
  have hlF := hF.lt
  have hG2 := hG.up hW
  go_wp2_with fail
  refine (pitem_any s (nx + 1) _ hs hnx hG2).mono ?_
  rintro e w3 ⟨he, b3⟩
  rw [hv2] at he
  subst he
  clear hv2 hG2 hlB hlF
  replace hW := hW.trans (b3.mono hW.size)
  replace hB := hB.below b3 hB.lt
  replace hF := hF.below b3 hF.lt
  clear b3
  obtain ⟨d0, d1, d2, d3⟩ := zblk_cells hB; have f0 := hB.frozen 0; have f1 := hB.frozen 1; have f2 := hB.frozen 2; have f3 := hB.frozen 3; have hlB := hB.lt
  obtain ⟨c0, c1, c2, c3, c4⟩ := iblk_cells hF; have hlF := hF.lt
  unfold pgV
  by_cases her : er = 0
  · subst her
    have hG3 := hG.up (hW.alloc hW.size (.cells #[.int .u64 (ow B 0), .int .u64 (ow B 1), .int .u64 (ow B 2), .int .u64 (ow B 3), .bool mb] 171))
    go_wp2_with fail
    refine (pspan_any A B ma mb hA hBb _ hG3.tab (Nat.lt_of_lt_of_le (by decide) hG3.lt)).mono ?_
    clear hG3
    rintro e w4 ⟨rfl, b4⟩
    replace hW := (hW.alloc hW.size (.cells #[.int .u64 (ow B 0), .int .u64 (ow B 1), .int .u64 (ow B 2), .int .u64 (ow B 3), .bool mb] 171)).trans (b4.mono (hW.alloc hW.size _).size)
    replace hB := (hB.alloc (.cells #[.int .u64 (ow B 0), .int .u64 (ow B 1), .int .u64 (ow B 2), .int .u64 (ow B 3), .bool mb] 171)).below b4 (hB.alloc _).lt
    clear b4 d0 d1 d2 d3 f0 f1 f2 f3 hlB c0 c1 c2 c3 c4 hlF hF
    obtain ⟨d0, d1, d2, d3⟩ := zblk_cells hB; have f0 := hB.frozen 0; have f1 := hB.frozen 1; have f2 := hB.frozen 2; have f3 := hB.frozen 3; have hlB := hB.lt
    generalize hX : spn A B ma mb = X
    have HX := Lib.hid hX
    clear hX
    have hz := oset_eqz X
    by_cases hq : X = oz
    · have hdq : decide (X = oz) = true := decide_eq_true hq
      have Hq := Lib.hid hq
      clear hq
      go_wp2_with fail
      refine bodyPost_ret (v := ptV oz k 1) (by simp [results, Tryd.results104, go_sem, d0, d1, d2, d3, ptV, hlB, ow_zero]) rfl ⟨by rw [← HR.out, if_neg (by simp), HX.out, if_pos Hq.out], ?_⟩
      repeat (first | (with_reducible exact hW) | refine Below.setCell ?_ (by first | omega | (simp; omega) | simp) _ | refine Below.alloc ?_ (by first | omega | (simp; omega) | simp) _)
    · have hdq : decide (X = oz) = false := decide_eq_false hq
      have Hq := Lib.hid hq
      clear hq
      go_wp2_with fail
      refine bodyPost_ret (v := ptV X n2 0) (by simp [results, Tryd.results104, go_sem, d0, d1, d2, d3, ptV, hlB, ow_zero]) rfl ⟨by rw [← HR.out, if_neg (by simp), HX.out, if_neg Hq.out], ?_⟩
      repeat (first | (with_reducible exact hW) | refine Below.setCell ?_ (by first | omega | (simp; omega) | simp) _ | refine Below.alloc ?_ (by first | omega | (simp; omega) | simp) _)
  · have r1 : ((er : Int) != 0) = true := by simp; omega
    go_wp2_with fail
    refine bodyPost_ret (v := ptV oz n2 er) (by simp [results, Tryd.results104, go_sem, d0, d1, d2, d3, ptV, hlB, ow_zero]) rfl ⟨by rw [← HR.out, if_pos her], ?_⟩
    repeat (first | (with_reducible exact hW) | refine Below.setCell ?_ (by first | omega | (simp; omega) | simp) _ | refine Below.alloc ?_ (by first | omega | (simp; omega) | simp) _)
/-- What stands at a place, as parsePart answers it. -/
def elV : Except (Nat × Nat) (OSet × Nat) → Value
  | .ok (t, j) => ptV t j 0
  | .error (e, p) => ptV oz p e
theorem dsh_iff (s : List UInt8) (k : Nat) : dsh s k = true ↔ (k + 1 < s.length ∧ byt s k = 45 ∧ byt s (k + 1) ≠ 93) := by
  unfold dsh
  simp only [Bool.and_eq_true, decide_eq_true_eq, Bool.not_eq_true', decide_eq_false_iff_not, and_assoc, ne_eq]
theorem part_any (s : ByteArray) (k : Nat) (w : World) (hs : s.size ≤ 1000000) (hk : k < s.size) (hG : Gl w) :
    Calls Tryd.prog 104 #[.string s, .int .i64 (k : Int)] w fun e w' => e = .returned (elV (elm s.data.toList k)) ∧ Below w.heap.size w w' := by
  unfold elm
  simp only
  by_cases h1 : (itm s.data.toList k).err = 0
  · obtain ⟨hn1, hn2⟩ := itm_next _ _ h1
    rw [plist_size] at hn2
    have hv : pgI (itm s.data.toList k) = pgV (itm s.data.toList k).set (itm s.data.toList k).may (itm s.data.toList k).next 0 := by
      unfold pgI
      rw [if_pos h1, h1]
    rw [if_neg (by rw [h1]; simp)]
    cases hd : dsh s.data.toList (itm s.data.toList k).next
    · rw [if_neg (by rw [← dsh_iff, hd]; simp)]
      exact part_one s k w hs hk hG _ _ _ _ hv (Or.inr ⟨hn2, hd⟩)
    · have hd2 := (dsh_iff _ _).1 hd
      rw [if_pos hd2, plist_size] at *
      generalize hb : itm s.data.toList ((itm s.data.toList k).next + 1) = b
      have hm := itm_may s.data.toList ((itm s.data.toList k).next + 1)
      rw [hb] at hm
      refine (part_two s k w hs hk hG _ b.set _ b.may _ (if b.err = 0 then b.next else b.place) b.err hv hd2.1 hd (by rw [hb]; rfl) (itm_may s.data.toList k) hm).mono ?_
      rintro e w' ⟨rfl, bl⟩
      refine ⟨congrArg _ ?_, bl⟩
      by_cases h2 : b.err = 0
      · simp only [h2, ne_eq, not_true_eq_false, if_false, if_true]
        unfold spn
        cases hA : (itm s.data.toList k).may
        · simp only [Bool.false_and, Bool.false_eq_true, if_false, if_true]
          rfl
        · cases hB : b.may
          · simp only [Bool.and_false, Bool.false_and, Bool.false_eq_true, if_false, if_true]
            rfl
          · obtain ⟨y, hy, hy2⟩ := hm hB
            have hl : lst b.set < 256 := by rw [hy2, (lst_one y hy).2]; exact hy
            rw [Bool.and_self, Bool.true_and, if_pos rfl]
            by_cases hle : lst (itm s.data.toList k).set ≤ lst b.set
            · rw [if_neg (span_some _ _ hl hle), if_pos (decide_eq_true hle)]
              rfl
            · rw [if_pos (span_none _ _ (by omega)), if_neg (by rw [decide_eq_false hle]; decide)]
              rfl
      · rw [if_pos h2, if_pos h2, if_neg h2]
        rfl
  · rw [if_pos h1]
    have hv : pgI (itm s.data.toList k) = pgV oz (itm s.data.toList k).may (itm s.data.toList k).place (itm s.data.toList k).err := by
      unfold pgI
      rw [if_neg h1, itm_set _ _ h1]
    exact part_one s k w hs hk hG _ _ _ _ hv (Or.inl h1)
end Go.Proofs.YtbbcjclkklmoaaaDoor
