/- The law's Few, walked. -/
import Derived.Test.YtnognicabhgmcaaDoorFiWg
namespace Go.Proofs.YtnognicabhgmcaaDoor
open Go Go.RowKit

def okL (x : List UInt8) : Bool := decide (x.length ≤ 100)
def okF (f : Fl) : Bool := decide (f.1.length ≤ 100) && (decide (f.2.length ≤ 30) && f.2.all okL)
def fewB (fs : List Fl) : Bool := fs.all okF && decide (fs.length ≤ 10)
theorem fewB_iff {fs : List Fl} (h : fewB fs = true) : FsFew fs := by
  unfold fewB at h
  rw [Bool.and_eq_true, List.all_eq_true, decide_eq_true_iff] at h
  refine ⟨h.2, fun f hf => ?_⟩
  have h1 := h.1 f hf
  unfold okF at h1
  rw [Bool.and_eq_true, Bool.and_eq_true, List.all_eq_true, decide_eq_true_iff, decide_eq_true_iff] at h1
  exact ⟨h1.1, h1.2.1, fun x hx => by have := h1.2.2 x hx; unfold okL at this; simpa using this⟩
theorem fi_all_no {α : Type} {p : α → Bool} {l : List α} {x : α} (hx : x ∈ l) (h : p x = false) : l.all p = false := by
  rw [List.all_eq_false]
  exact ⟨x, hx, by simp [h]⟩
theorem fi_all_take {α : Type} {p : α → Bool} {l : List α} {j : Nat} (hj : j < l.length) (h : (l.take j).all p = true) (hp : p l[j] = true) : (l.take (j + 1)).all p = true := by
  rw [show l.take (j + 1) = l.take j ++ [l[j]] by simp, List.all_append, h]
  simp [hp]
set_option linter.unusedVariables false in
set_option linter.unusedSimpArgs false in
set_option maxRecDepth 100000 in
set_option maxHeartbeats 4000000 in
theorem few_any (fs : List Fl) (a : Option Addr) (c : Nat) (w : World) (hr : FsRd w a fs) (hm : fs.length ≤ maxLen) : Calls Tryd.prog 7 #[.slice a fs.length c] w fun e w' => e = .returned (.bool (fewB fs)) ∧ Below w.heap.size w w' := by
  obtain ⟨n, hn⟩ : ∃ n, fs.length = n := ⟨_, rfl⟩
  have HR := Lib.hid hr
  have HN := Lib.hid hn
  rw [hn] at hm ⊢
  have hm2 : n ≤ 9223372036854775807 := hm
  obtain ⟨R, hR⟩ : ∃ R, fewB fs = R := ⟨_, rfl⟩
  rw [hR]
  have HRR := Lib.hid hR
  clear hr hn hm hR
  have hm3 : (n : Int) ≤ 9223372036854775807 := by omega
  go_enter Tryd.func7, Tryd.ntmps7
  go_wp2_with fail
  go_loopw [9] (fun i wr => ∃ (j : Nat), j ≤ n ∧ i = .int .i64 j ∧ Below w.heap.size w wr ∧ (fs.take j).all okF = true) (fun i _ => n - (intOf i).toNat)
  case atStart => exact ⟨0, by omega, rfl, Below.refl _ _, rfl⟩
  case round =>
    obtain ⟨j, hj, rfl, hb, hall⟩ := hrel
    have Hb := Lib.hid hb
    have HA := Lib.hid hall
    clear hb hall
    by_cases hlt : j < n
    · obtain ⟨g, o, rfl, hg, hcell⟩ := HR.out (by rw [HN.out]; omega)
      have hjl : j < fs.length := by rw [HN.out]; omega
      obtain ⟨h0, v, h1, h2⟩ := hcell j hjl
      have e0 := (Hb.out.cell (p := ⟨g, o + j * 2, none⟩) hg).trans h0
      have e1 := (Hb.out.cell (p := ⟨g, o + j * 2 + 1, none⟩) hg).trans h1
      have hNo : okF fs[j] = false → R = false := fun h => by rw [← HRR.out, fewB, fi_all_no (List.getElem_mem hjl) h]; rfl
      have hYes := fun h : okF fs[j] = true => fi_all_take hjl HA.out h
      generalize fs[j] = f at e0 e1 hNo hYes h2
      obtain ⟨x, ls⟩ := f
      simp only at e0 e1 h2
      obtain ⟨av, cv, rfl, hls⟩ := h2
      have HNO := Lib.hid hNo
      have HYES := Lib.hid hYes
      have HLS := Lib.hid hls
      obtain ⟨m, hm⟩ : ∃ m, ls.length = m := ⟨_, rfl⟩
      have HM := Lib.hid hm
      rw [hm] at e1
      have hji : (j : Int) < (n : Int) := by omega
      have hj0 : (0 : Int) ≤ (j : Int) := by omega
      have Wj : IntKind.i64.wrap ((j : Int) + 1) = (j : Int) + 1 := IntWalk.i64_in _ (by omega)
      obtain ⟨T, hT⟩ : ∃ T, txt x = T := ⟨_, rfl⟩
      have hTs : T.size = x.length := by rw [← hT, txt_size]
      rw [hT] at e0
      clear h0 h1 hcell hNo hYes hls hm hT
      go_upto_region 4 with fail
      generalize hW3 : wr.alloc _ = W3
      have b3 : Below wr.heap.size wr W3 := by rw [← hW3]; exact (Below.refl _ wr).alloc (Nat.le_refl _) _
      have q3 : Blk W3 wr.heap.size #[.string T, .slice av m cv] 50 := by rw [← hW3]; exact (MapKept.heap_alloc wr _).1
      obtain ⟨q, hq⟩ : ∃ q, wr.heap.size = q := ⟨_, rfl⟩
      rw [hq] at q3 ⊢
      have k1 : W3.cell? ⟨q, 0, none⟩ = some (.string T) := (q3.cell 0).trans rfl
      have k2 : W3.cell? ⟨q, 1, none⟩ = some (.slice av m cv) := (q3.cell 1).trans rfl
      have B3 := Lib.hid (show Below w.heap.size w W3 from Hb.out.trans (b3.mono Hb.out.size))
      have HS := Lib.hid hTs
      clear hW3 b3 q3 hq
      by_cases hx : T.size ≤ 100
      · have p1 : decide ((100 : Int) < (T.size : Int)) = false := decide_eq_false (by omega)
        have HX := Lib.hid (show x.length ≤ 100 by omega)
        by_cases hl : m ≤ 30
        · have p2 : decide ((30 : Int) < (m : Int)) = false := decide_eq_false (by omega)
          have p3 : ¬ ((30 : Int) < (m : Int)) := by omega
          have p4 : ¬ ((100 : Int) < (T.size : Int)) := by omega
          clear hTs hx
          go_wp2_with fail
          go_loopw [26] (fun i wx => ∃ (k : Nat), k ≤ m ∧ i = .int .i64 k ∧ wx = W3 ∧ (ls.take k).all okL = true) (fun i _ => m - (intOf i).toNat)
          case atStart => exact ⟨0, by omega, rfl, rfl, rfl⟩
          case round =>
            obtain ⟨k, hk, rfl, rfl, hal⟩ := hrel
            have HAL := Lib.hid hal
            clear hal
            by_cases hlk : k < m
            · obtain ⟨g2, o2, rfl, hg2, hc2⟩ := HLS.out (by rw [HM.out]; omega)
              have hkl : k < ls.length := by rw [HM.out]; exact hlk
              have r0 := (B3.out.cell (p := ⟨g2, o2 + k, none⟩) hg2).trans (hc2 k hkl)
              have HN2 := Lib.hid (fun h : okL ls[k] = false => HNO.out (by unfold okF; rw [fi_all_no (List.getElem_mem hkl) h]; simp))
              have HY2 := Lib.hid (fun h : okL ls[k] = true => fi_all_take hkl HAL.out h)
              generalize ls[k] = y at r0 HN2 HY2
              obtain ⟨S, hS⟩ : ∃ S, txt y = S := ⟨_, rfl⟩
              have hSs : S.size = y.length := by rw [← hS, txt_size]
              rw [hS] at r0
              have hki : (k : Int) < (m : Int) := by omega
              have hk0 : (0 : Int) ≤ (k : Int) := by omega
              have Wk : IntKind.i64.wrap ((k : Int) + 1) = (k : Int) + 1 := IntWalk.i64_in _ (by omega)
              clear hc2 hS
              by_cases hy : S.size ≤ 100
              · have p5 : ¬ ((100 : Int) < (S.size : Int)) := by omega
                have HY3 := Lib.hid (HY2.out (by unfold okL; simp; omega))
                clear hSs
                go_wp2_with fail
                go_roundw
                case rel => exact ⟨k + 1, by omega, by go_num, by first | rfl | trivial, HY3.out⟩
                case measure => simp [intOf]; omega
              · have p5 : (100 : Int) < (S.size : Int) := by omega
                have HN3 := Lib.hid (HN2.out (by unfold okL; simp; omega))
                clear hSs
                go_wp2_with fail
                go_ret
                rw [HN3.out]
                exact ⟨by first | rfl | trivial, B3.out⟩
            · obtain rfl : m = k := by omega
              have hmm : ¬ (m : Int) < (m : Int) := by omega
              have HY3 := Lib.hid (HYES.out (by have h := HAL.out; rw [← HM.out, List.take_length] at h; unfold okF; simp only; rw [h, HM.out]; simp [HX.out, hl]))
              go_wp2_with fail
              go_roundw
              case rel => exact ⟨j + 1, by omega, by go_num, B3.out, HY3.out⟩
              case measure => simp [intOf]; omega
        · have p2 : decide ((30 : Int) < (m : Int)) = true := decide_eq_true (by omega)
          have p3 : (30 : Int) < (m : Int) := by omega
          have p4 : ¬ ((100 : Int) < (T.size : Int)) := by omega
          have HZ := Lib.hid (HNO.out (by unfold okF; simp only; rw [HM.out]; simp [hl]))
          clear hTs hx
          go_wp2_with fail
          go_ret
          rw [HZ.out]
          exact ⟨by first | rfl | trivial, B3.out⟩
      · have p1 : decide ((100 : Int) < (T.size : Int)) = true := decide_eq_true (by omega)
        have p4 : (100 : Int) < (T.size : Int) := by omega
        have HZ := Lib.hid (HNO.out (by unfold okF; simp only; simp; omega))
        clear hTs
        go_wp2_with fail
        go_ret
        rw [HZ.out]
        exact ⟨by first | rfl | trivial, B3.out⟩
    · obtain rfl : n = j := by omega
      have HZ := Lib.hid (show R = decide (n ≤ 10) by have h := HA.out; rw [← HN.out, List.take_length] at h; rw [← HRR.out, fewB, h, HN.out]; rfl)
      go_wp2_with fail
      go_ret
      rw [HZ.out]
      exact ⟨by simp; omega, Hb.out⟩
end Go.Proofs.YtnognicabhgmcaaDoor
