/- The program's bracket expressions, walked: all items; the whole. -/
import Derived.Test.YtbbcjclkklmoaaaDoorBrProgE
import Derived.Test.YtbbcjclkklmoaaaDoorMaC
namespace Go.Proofs.YtbbcjclkklmoaaaDoor
open Go.RowKit

set_option linter.unusedSimpArgs false in
set_option maxRecDepth 100000 in
set_option maxHeartbeats 4000000 in
theorem items_any (s : ByteArray) (n : Nat) (w : World) (hs : s.size ≤ 1000000) (hn : n ≤ s.size) (hG : Gl w) :
    Calls Tryd.prog 96 #[.string s, .int .i64 (n : Int)] w fun e w' => e = .returned (elV (rst s.data.toList true n oz)) ∧ Below w.heap.size w w' := by
  generalize hR : elV (rst s.data.toList true n oz) = R
  have HR := Lib.hid hR
  clear hR
  have hz : oc oz = #[.int .u64 0, .int .u64 0, .int .u64 0, .int .u64 0] := by unfold oc; rw [ow_zero, ow_zero, ow_zero, ow_zero]
  have hW := ((Below.refl w.heap.size w).alloc (Nat.le_refl _) (.cells #[.int .u64 0, .int .u64 0, .int .u64 0, .int .u64 0] 57)).alloc (by simp) (.cells #[.int .u64 0, .int .u64 0, .int .u64 0, .int .u64 0] 57)
  have hB := (Blk.new w #[.int .u64 0, .int .u64 0, .int .u64 0, .int .u64 0] 57 _ rfl).alloc (.cells #[.int .u64 0, .int .u64 0, .int .u64 0, .int .u64 0] 57)
  have hO : Blk ((w.alloc (.cells #[.int .u64 0, .int .u64 0, .int .u64 0, .int .u64 0] 57)).alloc (.cells #[.int .u64 0, .int .u64 0, .int .u64 0, .int .u64 0] 57)) (w.heap.size + 1) (oc oz) 57 := by rw [hz]; exact Blk.new _ _ _ _ (by simp)
  clear hz
  go_enter Tryd.func96, Tryd.ntmps96
  go_wp2_with fail
  go_loopw [8] (fun i wr => ∃ (k : Nat) (fl : Bool) (acc : OSet), k ≤ s.size ∧ n ≤ k ∧ i = .int .i64 k ∧ (fl = false ↔ n < k) ∧ rst s.data.toList fl k acc = rst s.data.toList true n oz ∧ Below w.heap.size w wr ∧ Blk wr w.heap.size #[.int .u64 0, .int .u64 0, .int .u64 0, .int .u64 0] 57 ∧ Blk wr (w.heap.size + 1) (oc acc) 57) (fun i _ => s.size + 1 - (intOf i).toNat)
  case atStart => exact ⟨n, true, oz, hn, Nat.le_refl _, rfl, by simp, rfl, hW, hB, hO⟩
  case round =>
    clear hW hB hO
    obtain ⟨k, fl, acc, hk, hnk, rfl, hfl, hq, hW, hB, hO⟩ := hrel
    have Hq := Lib.hid hq
    have Hfl := Lib.hid hfl
    clear hq hfl
    obtain ⟨d0, d1, d2, d3⟩ := zblk_cells hB; have f0 := hB.frozen 0; have f1 := hB.frozen 1; have f2 := hB.frozen 2; have f3 := hB.frozen 3; have hlB := hB.lt
    obtain ⟨c0, c1, c2, c3⟩ := oblk_cells hO; have g0 := hO.frozen 0; have g1 := hO.frozen 1; have g2 := hO.frozen 2; have g3 := hO.frozen 3; have hlO := hO.lt
    by_cases hlt : k < s.size
    · have e0 : decide ((k : Int) < (s.size : Int)) = true := by simp; omega
      have e1 : decide (k < s.size) = true := decide_eq_true hlt
      by_cases hend : n < k ∧ s[k].toNat = 93
      · obtain ⟨hnk2, h93⟩ := hend
        have Hx := Lib.hid (show elV (rst s.data.toList fl k acc) = ptV acc (k + 1) 0 by
          rw [Hfl.out.2 hnk2, rst, if_pos ⟨rfl, by rw [plist_size]; exact hlt, by rw [pbyt_at s k hlt]; exact h93⟩]
          rfl)
        have e2 : ((s[k].toNat : Int) == 93) = true := by simp; omega
        have e3 : decide ((n : Int) < (k : Int)) = true := by simp; omega
        have e4 : decide (n < k) = true := decide_eq_true hnk2
        have Wk : IntKind.i64.wrap ((k : Int) + 1) = (k : Int) + 1 := IntWalk.i64_in _ (by omega)
        clear h93
        go_wp2_with fail
        refine bodyPost_ret (v := ptV acc (k + 1) 0) (by simp [results, Tryd.results96, go_sem, d0, d1, d2, d3, ptV, hlB]) rfl ⟨by rw [← HR.out, ← Hq.out, Hx.out], ?_⟩
        repeat (first | (with_reducible exact hW) | refine Below.setCell ?_ (by first | omega | (simp; omega) | simp) _ | refine Below.alloc ?_ (by first | omega | (simp; omega) | simp) _)
      · have hno : ¬ (fl = false ∧ k < s.data.toList.length ∧ byt s.data.toList k = 93) := by
          rintro ⟨h1, _, h3⟩
          rw [pbyt_at s k hlt] at h3
          exact hend ⟨Hfl.out.1 h1, h3⟩
        have Hno := Lib.hid hno
        clear hno
        go_upto_region 4 with fail
        go_cut [25] from 17 to 26 (fun b wx => b = .bool false ∧ wx = wr)
        case first =>
          by_cases h93 : s[k].toNat = 93
          · have e2 : ((s[k].toNat : Int) == 93) = true := by simp; omega
            have e3 : decide ((n : Int) < (k : Int)) = false := by simp; omega
            have e4 : decide (n < k) = false := decide_eq_false (fun h => hend ⟨h, h93⟩)
            clear h93 hend
            go_wp2_with fail
            go_meet
            exact ⟨rfl, rfl⟩
          · have e2 : ((s[k].toNat : Int) == 93) = false := by simp; omega
            clear h93 hend
            go_wp2_with fail
            go_meet
            exact ⟨rfl, rfl⟩
        case rest =>
          obtain ⟨rfl, rfl⟩ := hcut
          clear hend
          have hG1 := hG.up hW
          go_wp2_with fail
          refine (part_any s k _ hs hlt hG1).mono ?_
          rintro e w1 ⟨he, b1⟩
          replace hW := hW.trans (b1.mono hW.size)
          replace hB := hB.below b1 hB.lt
          replace hO := hO.below b1 hO.lt
          clear b1 hG1 d0 d1 d2 d3 f0 f1 f2 f3 hlB c0 c1 c2 c3 g0 g1 g2 g3 hlO
          cases hel : elm s.data.toList k with
          | error x =>
            obtain ⟨er, pl⟩ := x
            rw [hel] at he
            have Hx := Lib.hid (show elV (rst s.data.toList fl k acc) = ptV oz pl er by rw [rst_err _ _ _ _ _ Hno.out hel]; rfl)
            have her : er ≠ 0 := elm_err _ _ _ _ hel
            have e5 : ((er : Int) != 0) = true := by simp; omega
            clear hel
            subst he
            unfold elV ptV
            obtain ⟨d0, d1, d2, d3⟩ := zblk_cells hB; have f0 := hB.frozen 0; have f1 := hB.frozen 1; have f2 := hB.frozen 2; have f3 := hB.frozen 3; have hlB := hB.lt
            go_wp2_with fail
            refine bodyPost_ret (v := ptV oz pl er) (by simp [results, Tryd.results96, go_sem, d0, d1, d2, d3, ptV, hlB, ow_zero]) rfl ⟨by rw [← HR.out, ← Hq.out, Hx.out], ?_⟩
            repeat (first | (with_reducible exact hW) | refine Below.setCell ?_ (by first | omega | (simp; omega) | simp) _ | refine Below.alloc ?_ (by first | omega | (simp; omega) | simp) _)
          | ok x =>
            obtain ⟨t, j⟩ := x
            rw [hel] at he
            have hnx := elm_next _ _ _ _ hel
            rw [plist_size] at hnx
            have Hx := Lib.hid (rst_ok _ _ _ acc _ _ Hno.out hel)
            clear hel
            subst he
            unfold elV ptV
            obtain ⟨d0, d1, d2, d3⟩ := zblk_cells hB; have f0 := hB.frozen 0; have f1 := hB.frozen 1; have f2 := hB.frozen 2; have f3 := hB.frozen 3; have hlB := hB.lt
            obtain ⟨c0, c1, c2, c3⟩ := oblk_cells hO; have g0 := hO.frozen 0; have g1 := hO.frozen 1; have g2 := hO.frozen 2; have g3 := hO.frozen 3; have hlO := hO.lt
            go_wp2_with fail
            refine (or_any acc t _).mono ?_
            rintro e w2 ⟨rfl, b2⟩
            replace hW := (hW.alloc hW.size (.cells (oc t) 57)).trans (b2.mono (hW.alloc hW.size _).size)
            replace hB := (hB.alloc (.cells (oc t) 57)).below b2 (hB.alloc _).lt
            replace hO := (hO.alloc (.cells (oc t) 57)).below b2 (hO.alloc _).lt
            clear b2 d0 d1 d2 d3 f0 f1 f2 f3 hlB c0 c1 c2 c3 g0 g1 g2 g3 hlO
            obtain ⟨c0, c1, c2, c3⟩ := oblk_cells hO; have g0 := hO.frozen 0; have g1 := hO.frozen 1; have g2 := hO.frozen 2; have g3 := hO.frozen 3; have hlO := hO.lt
            go_wp2_with fail
            go_roundw
            case rel =>
              refine ⟨j, false, acc ||| t, hnx.2, by omega, rfl, by simp; omega, by rw [← Hx.out, Hq.out], ?_, ?_, oblk_store hO _⟩
              · repeat (first | (with_reducible exact hW) | refine Below.setCell ?_ (by first | omega | (simp; omega) | simp) _ | refine Below.alloc ?_ (by first | omega | (simp; omega) | simp) _)
              · repeat (first | exact hB | refine Blk.set_other ?_ _ (by simp) _)
            case measure => simp [intOf]; omega
    · have e0 : decide ((k : Int) < (s.size : Int)) = false := by simp; omega
      have e1 : decide (k < s.size) = false := decide_eq_false hlt
      have Hx := Lib.hid (show elV (rst s.data.toList fl k acc) = ptV oz s.size 5 by
        have he : elm s.data.toList k = .error (5, s.size) := by
          have hi : itm s.data.toList k = ⟨oz, false, 0, 5, s.size⟩ := by unfold itm; rw [if_pos (by rw [plist_size]; omega), plist_size]
          unfold elm
          rw [hi]
          rfl
        rw [rst_err _ _ _ _ _ (by rw [plist_size]; omega) he]
        rfl)
      go_wp2_with fail
      refine bodyPost_ret (v := ptV oz s.size 5) (by simp [results, Tryd.results96, go_sem, d0, d1, d2, d3, ptV, hlB, ow_zero]) rfl ⟨by rw [← HR.out, ← Hq.out, Hx.out], ?_⟩
      repeat (first | (with_reducible exact hW) | refine Below.setCell ?_ (by first | omega | (simp; omega) | simp) _ | refine Below.alloc ?_ (by first | omega | (simp; omega) | simp) _)
theorem pcar (s : ByteArray) (n : Nat) (w : World) :
    Calls Tryd.prog 89 #[.string (s.extract n s.size), .string ⟨#[94]⟩] w fun e w' => e = .returned (.bool (car s.data.toList n)) ∧ w = w' := by
  have h := prefix_any (s.extract n s.size) ⟨#[94]⟩ w
  rw [ext_list, show (⟨#[94]⟩ : ByteArray).data.toList = [94] from rfl, pre_one] at h
  exact h
set_option linter.unusedSimpArgs false in
set_option maxRecDepth 100000 in
set_option maxHeartbeats 1000000 in
theorem parse_out (s : ByteArray) (k : Int) (w : World) (h : k < 0 ∨ (s.size : Int) < k) :
    Calls Tryd.prog 84 #[.string s, .int .i64 k] w fun e w' => e = .returned (prV (prs s.data.toList k)) ∧ Below w.heap.size w w' := by
  have Hp := Lib.hid (prs_out s.data.toList k (by rw [plist_size]; exact h))
  have hW := (Below.refl w.heap.size w).alloc (Nat.le_refl _) (.cells #[.int .u64 0, .int .u64 0, .int .u64 0, .int .u64 0] 57)
  by_cases h0 : k < 0
  · have e0 : decide (k < 0) = true := decide_eq_true h0
    go_enter Tryd.func84, Tryd.ntmps84
    go_wp2_with fail
    refine bodyPost_ret (v := prV (oz, 0, 1)) (by simp [results, Tryd.results84, go_sem, prV, ow_zero]) rfl ⟨by rw [Hp.out], ?_⟩
    repeat (first | (with_reducible exact hW) | refine Below.setCell ?_ (by first | omega | (simp; omega) | simp) _ | refine Below.alloc ?_ (by first | omega | (simp; omega) | simp) _)
  · have e0 : decide (k < 0) = false := decide_eq_false h0
    have e1 : decide ((s.size : Int) < k) = true := decide_eq_true (by omega)
    go_enter Tryd.func84, Tryd.ntmps84
    go_wp2_with fail
    refine bodyPost_ret (v := prV (oz, 0, 1)) (by simp [results, Tryd.results84, go_sem, prV, ow_zero]) rfl ⟨by rw [Hp.out], ?_⟩
    repeat (first | (with_reducible exact hW) | refine Below.setCell ?_ (by first | omega | (simp; omega) | simp) _ | refine Below.alloc ?_ (by first | omega | (simp; omega) | simp) _)
set_option linter.unusedSimpArgs false in
set_option maxRecDepth 100000 in
set_option maxHeartbeats 2000000 in
theorem parse_plain (s : ByteArray) (n : Nat) (w : World) (hs : s.size ≤ 1000000) (hn : n ≤ s.size) (hG : Gl w) (hc : car s.data.toList n = false) :
    Calls Tryd.prog 84 #[.string s, .int .i64 (n : Int)] w fun e w' => e = .returned (prV (prs s.data.toList (n : Int))) ∧ Below w.heap.size w w' := by
  generalize hR : prV (prs s.data.toList (n : Int)) = R
  have HR := Lib.hid hR
  clear hR
  have e1 : decide ((s.size : Int) < (n : Int)) = false := decide_eq_false (by omega)
  have e2 : decide (s.size < n) = false := decide_eq_false (by omega)
  have Wn : IntKind.i64.wrap ((n : Int) + 1) = ((n + 1 : Nat) : Int) := by rw [IntWalk.i64_in _ (by omega)]; omega
  have hW := (Below.refl w.heap.size w).alloc (Nat.le_refl _) (.cells #[.int .u64 0, .int .u64 0, .int .u64 0, .int .u64 0] 57)
  have hB := Blk.new w #[.int .u64 0, .int .u64 0, .int .u64 0, .int .u64 0] 57 _ rfl
  have hG1 := hG.up hW
  have Hok := Lib.hid (prs_ok s.data.toList n (by rw [plist_size]; exact hn))
  have Her := Lib.hid (prs_err s.data.toList n (by rw [plist_size]; exact hn))
  rw [hc] at Hok Her
  go_enter Tryd.func84, Tryd.ntmps84
  go_wp2_with fail
  refine (pcar s n _).mono ?_
  rintro e w1 ⟨he, rfl⟩
  rw [hc] at he
  subst he
  go_wp2_with fail
  refine (items_any s n _ hs hn hG1).mono ?_
  rintro e w2 ⟨he, b2⟩
  replace hW := hW.trans (b2.mono hW.size)
  replace hB := hB.below b2 hB.lt
  clear b2 hG1
  cases hr : rst s.data.toList true n oz with
  | error x =>
    obtain ⟨er, pl⟩ := x
    rw [hr] at he
    have Hx := Lib.hid (Her.out er pl (by simpa using hr))
    have her : er ≠ 0 := rst_end _ _ _ _ _ _ hr
    have e5 : ((er : Int) == 0) = false := by simp; omega
    clear hr
    subst he
    unfold elV ptV
    obtain ⟨d0, d1, d2, d3⟩ := zblk_cells hB; have f0 := hB.frozen 0; have f1 := hB.frozen 1; have f2 := hB.frozen 2; have f3 := hB.frozen 3; have hlB := hB.lt
    go_wp2_with fail
    refine bodyPost_ret (v := prV (oz, (pl : Int), er)) (by simp [results, Tryd.results84, go_sem, d0, d1, d2, d3, prV, hlB, ow_zero]) rfl ⟨by rw [← HR.out, Hx.out], ?_⟩
    repeat (first | (with_reducible exact hW) | refine Below.setCell ?_ (by first | omega | (simp; omega) | simp) _ | refine Below.alloc ?_ (by first | omega | (simp; omega) | simp) _)
  | ok x =>
    obtain ⟨t, j⟩ := x
    rw [hr] at he
    have Hx := Lib.hid (Hok.out t j (by simpa using hr))
    clear hr
    subst he
    unfold elV ptV
    obtain ⟨d0, d1, d2, d3⟩ := zblk_cells hB; have f0 := hB.frozen 0; have f1 := hB.frozen 1; have f2 := hB.frozen 2; have f3 := hB.frozen 3; have hlB := hB.lt
    go_wp2_with fail
    refine bodyPost_ret (v := prV (t, (j : Int), 0)) (by simp [results, Tryd.results84, go_sem, d0, d1, d2, d3, prV, hlB]) rfl ⟨by rw [← HR.out, Hx.out]; rfl, ?_⟩
    repeat (first | (with_reducible exact hW) | refine Below.setCell ?_ (by first | omega | (simp; omega) | simp) _ | refine Below.alloc ?_ (by first | omega | (simp; omega) | simp) _)
set_option linter.unusedSimpArgs false in
set_option maxRecDepth 100000 in
set_option maxHeartbeats 3000000 in
theorem parse_not (s : ByteArray) (n : Nat) (w : World) (hs : s.size ≤ 1000000) (hn : n ≤ s.size) (hG : Gl w) (hc : car s.data.toList n = true) (hn1 : n + 1 ≤ s.size) :
    Calls Tryd.prog 84 #[.string s, .int .i64 (n : Int)] w fun e w' => e = .returned (prV (prs s.data.toList (n : Int))) ∧ Below w.heap.size w w' := by
  generalize hR : prV (prs s.data.toList (n : Int)) = R
  have HR := Lib.hid hR
  clear hR
  have e1 : decide ((s.size : Int) < (n : Int)) = false := decide_eq_false (by omega)
  have e2 : decide (s.size < n) = false := decide_eq_false (by omega)
  have Wn : IntKind.i64.wrap ((n : Int) + 1) = ((n + 1 : Nat) : Int) := by rw [IntWalk.i64_in _ (by omega)]; omega
  have hW := (Below.refl w.heap.size w).alloc (Nat.le_refl _) (.cells #[.int .u64 0, .int .u64 0, .int .u64 0, .int .u64 0] 57)
  have hB := Blk.new w #[.int .u64 0, .int .u64 0, .int .u64 0, .int .u64 0] 57 _ rfl
  have hG1 := hG.up hW
  have Hok := Lib.hid (prs_ok s.data.toList n (by rw [plist_size]; exact hn))
  have Her := Lib.hid (prs_err s.data.toList n (by rw [plist_size]; exact hn))
  rw [hc] at Hok Her
  go_enter Tryd.func84, Tryd.ntmps84
  go_wp2_with fail
  refine (pcar s n _).mono ?_
  rintro e w1 ⟨he, rfl⟩
  rw [hc] at he
  subst he
  go_wp2_with fail
  refine (items_any s (n + 1) _ hs hn1 hG1).mono ?_
  rintro e w2 ⟨he, b2⟩
  replace hW := hW.trans (b2.mono hW.size)
  replace hB := hB.below b2 hB.lt
  clear b2 hG1
  cases hr : rst s.data.toList true (n + 1) oz with
  | error x =>
    obtain ⟨er, pl⟩ := x
    rw [hr] at he
    have Hx := Lib.hid (Her.out er pl (by simpa using hr))
    have her : er ≠ 0 := rst_end _ _ _ _ _ _ hr
    have e5 : ((er : Int) == 0) = false := by simp; omega
    clear hr
    subst he
    unfold elV ptV
    obtain ⟨d0, d1, d2, d3⟩ := zblk_cells hB; have f0 := hB.frozen 0; have f1 := hB.frozen 1; have f2 := hB.frozen 2; have f3 := hB.frozen 3; have hlB := hB.lt
    go_wp2_with fail
    refine bodyPost_ret (v := prV (oz, (pl : Int), er)) (by simp [results, Tryd.results84, go_sem, d0, d1, d2, d3, prV, hlB, ow_zero]) rfl ⟨by rw [← HR.out, Hx.out], ?_⟩
    repeat (first | (with_reducible exact hW) | refine Below.setCell ?_ (by first | omega | (simp; omega) | simp) _ | refine Below.alloc ?_ (by first | omega | (simp; omega) | simp) _)
  | ok x =>
    obtain ⟨t, j⟩ := x
    rw [hr] at he
    have Hx := Lib.hid (Hok.out t j (by simpa using hr))
    clear hr
    subst he
    unfold elV ptV
    obtain ⟨d0, d1, d2, d3⟩ := zblk_cells hB; have f0 := hB.frozen 0; have f1 := hB.frozen 1; have f2 := hB.frozen 2; have f3 := hB.frozen 3; have hlB := hB.lt
    go_wp2_with fail
    obtain ⟨nt, hnt⟩ : ∃ nt, ~~~t = nt := ⟨_, rfl⟩
    have hna := not_any t
    rw [hnt] at Hx hna
    clear hnt
    refine (hna _).mono ?_
    rintro e w3 ⟨rfl, b3⟩
    replace hW := (hW.alloc hW.size (.cells (oc t) 57)).trans (b3.mono (hW.alloc hW.size _).size)
    replace hB := (hB.alloc (.cells (oc t) 57)).below b3 (hB.alloc _).lt
    have hne := hlB
    have hne2 : ¬ w.heap.size = w2.heap.size := by omega
    have hne3 : ¬ w2.heap.size = w.heap.size := by omega
    have hS := (Blk.new w2 (oc t) 57 _ rfl).below b3 (by simp)
    have hlS := hS.lt
    have g0 := hS.frozen 0
    have g1 := hS.frozen 1
    have g2 := hS.frozen 2
    have g3 := hS.frozen 3
    obtain ⟨c0, c1, c2, c3⟩ := oblk_cells hS
    clear b3 d0 d1 d2 d3 f0 f1 f2 f3 hlB
    obtain ⟨d0, d1, d2, d3⟩ := zblk_cells hB; have f0 := hB.frozen 0; have f1 := hB.frozen 1; have f2 := hB.frozen 2; have f3 := hB.frozen 3; have hlB := hB.lt
    go_wp2_with fail
    have hz : oc oz = #[.int .u64 0, .int .u64 0, .int .u64 0, .int .u64 0] := by unfold oc; rw [ow_zero, ow_zero, ow_zero, ow_zero]
    have hB0 : Blk w3 w.heap.size (oc oz) 57 := by rw [hz]; exact hB
    have hB1 : Blk ((((w3.setCell ⟨w2.heap.size, 0, none⟩ (.int .u64 (ow nt 0))).setCell ⟨w2.heap.size, 1, none⟩ (.int .u64 (ow nt 1))).setCell ⟨w2.heap.size, 2, none⟩ (.int .u64 (ow nt 2))).setCell ⟨w2.heap.size, 3, none⟩ (.int .u64 (ow nt 3))) w.heap.size (oc oz) 57 := (((hB0.set_other _ hne3 _).set_other _ hne3 _).set_other _ hne3 _).set_other _ hne3 _
    have hB2 : Blk ((((((((w3.setCell ⟨w2.heap.size, 0, none⟩ (.int .u64 (ow nt 0))).setCell ⟨w2.heap.size, 1, none⟩ (.int .u64 (ow nt 1))).setCell ⟨w2.heap.size, 2, none⟩ (.int .u64 (ow nt 2))).setCell ⟨w2.heap.size, 3, none⟩ (.int .u64 (ow nt 3))).setCell ⟨w.heap.size, 0, none⟩ (.int .u64 (ow nt 0))).setCell ⟨w.heap.size, 1, none⟩ (.int .u64 (ow nt 1))).setCell ⟨w.heap.size, 2, none⟩ (.int .u64 (ow nt 2))).setCell ⟨w.heap.size, 3, none⟩ (.int .u64 (ow nt 3))) w.heap.size (oc nt) 57 := oblk_store hB1 nt
    have hWf : Below w.heap.size w ((((((((w3.setCell ⟨w2.heap.size, 0, none⟩ (.int .u64 (ow nt 0))).setCell ⟨w2.heap.size, 1, none⟩ (.int .u64 (ow nt 1))).setCell ⟨w2.heap.size, 2, none⟩ (.int .u64 (ow nt 2))).setCell ⟨w2.heap.size, 3, none⟩ (.int .u64 (ow nt 3))).setCell ⟨w.heap.size, 0, none⟩ (.int .u64 (ow nt 0))).setCell ⟨w.heap.size, 1, none⟩ (.int .u64 (ow nt 1))).setCell ⟨w.heap.size, 2, none⟩ (.int .u64 (ow nt 2))).setCell ⟨w.heap.size, 3, none⟩ (.int .u64 (ow nt 3))) := by
      repeat (first | (with_reducible exact hW) | refine Below.setCell ?_ (by first | omega | (simp; omega) | simp) _ | refine Below.alloc ?_ (by first | omega | (simp; omega) | simp) _)
    generalize ((((((((w3.setCell ⟨w2.heap.size, 0, none⟩ (.int .u64 (ow nt 0))).setCell ⟨w2.heap.size, 1, none⟩ (.int .u64 (ow nt 1))).setCell ⟨w2.heap.size, 2, none⟩ (.int .u64 (ow nt 2))).setCell ⟨w2.heap.size, 3, none⟩ (.int .u64 (ow nt 3))).setCell ⟨w.heap.size, 0, none⟩ (.int .u64 (ow nt 0))).setCell ⟨w.heap.size, 1, none⟩ (.int .u64 (ow nt 1))).setCell ⟨w.heap.size, 2, none⟩ (.int .u64 (ow nt 2))).setCell ⟨w.heap.size, 3, none⟩ (.int .u64 (ow nt 3))) = wf at hB2 hWf ⊢
    clear hB1 hB0 hB hz hS c0 c1 c2 c3 g0 g1 g2 g3 d0 d1 d2 d3 f0 f1 f2 f3
    obtain ⟨r0, r1, r2, r3⟩ := oblk_cells hB2
    refine bodyPost_ret (v := prV (nt, (j : Int), 0)) (by simp [results, Tryd.results84, go_sem, r0, r1, r2, r3, prV]) rfl ⟨by rw [← HR.out, Hx.out]; rfl, hWf⟩
theorem parse_in (s : ByteArray) (n : Nat) (w : World) (hs : s.size ≤ 1000000) (hn : n ≤ s.size) (hG : Gl w) :
    Calls Tryd.prog 84 #[.string s, .int .i64 (n : Int)] w fun e w' => e = .returned (prV (prs s.data.toList (n : Int))) ∧ Below w.heap.size w w' := by
  cases hc : car s.data.toList n
  · exact parse_plain s n w hs hn hG hc
  · refine parse_not s n w hs hn hG hc ?_
    unfold car at hc
    rw [plist_size] at hc
    simp only [Bool.and_eq_true, decide_eq_true_eq] at hc
    omega
theorem parse_any (s : ByteArray) (k : Int) (w : World) (hs : s.size ≤ 1000000) (hG : Gl w) :
    Calls Tryd.prog 84 #[.string s, .int .i64 k] w fun e w' => e = .returned (prV (prs s.data.toList k)) ∧ Below w.heap.size w w' := by
  by_cases h : k < 0 ∨ (s.size : Int) < k
  · exact parse_out s k w h
  · obtain ⟨n, rfl⟩ : ∃ n : Nat, k = (n : Int) := ⟨k.toNat, by omega⟩
    exact parse_in s n w hs (by omega) hG
end Go.Proofs.YtbbcjclkklmoaaaDoor
