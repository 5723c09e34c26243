/- The document's Same, walked: of two tables that are the same. -/
import Derived.Test.YtnognicabhgmcaaDoorFiWm
import Derived.Test.YtnognicabhgmcaaDoorFiWh
namespace Go.Proofs.YtnognicabhgmcaaDoor
open Go Go.RowKit

theorem fi_drewN {B : Nat} {a w : World} (h : Below B a w) (n : Nat) : Below B a (w.drewN n) := h.trans ⟨rfl, rfl, rfl, Nat.le_refl _, fun _ _ => rfl⟩
theorem FsOwn.few {T : TypeId} {G : Nat → Prop} {w : World} {B : Nat} {v : Value} {fs : List Fl} (h : FsOwn T G w B v fs) : ∀ f ∈ fs, f.2.length ≤ maxLen := by
  obtain ⟨L, rfl, _, h3⟩ := h
  intro f hf
  obtain ⟨x, hx, rfl⟩ := List.mem_map.1 hf
  obtain ⟨_, _, _, _, h4, _⟩ := fi_row_cells (h3 x hx).1
  exact h4
set_option linter.unusedVariables false in
set_option linter.unusedSimpArgs false in
set_option maxRecDepth 100000 in
set_option maxHeartbeats 4000000 in
theorem rfsame_any (fs : List Fl) (a b : Option Addr) (c d : Nat) (w : World) (ha : FsRd w a fs) (hb : FsRd w b fs) (hl : fs.length ≤ 1000) (hm : ∀ f ∈ fs, f.2.length ≤ maxLen) : Calls Tryd.prog 17 #[.slice a fs.length c, .slice b fs.length d] w fun e w' => e = .returned (.bool true) ∧ Below w.heap.size w w' := by
  obtain ⟨n, hn⟩ : ∃ n, fs.length = n := ⟨_, rfl⟩
  have hne := neq_str
  have n1 : ((n : Int) != (n : Int)) = false := by simp
  rw [hn] at hl ⊢
  have HA := Lib.hid ha
  have HB := Lib.hid hb
  have HN := Lib.hid hn
  have HM := Lib.hid hm
  clear ha hb hn hm
  go_enter Tryd.func17, Tryd.ntmps17
  go_wp2_with fail
  go_loopw [14] (fun i wr => ∃ (j : Nat), j ≤ n ∧ i = .int .i64 j ∧ Below w.heap.size w wr) (fun i _ => n - (intOf i).toNat)
  case atStart => exact ⟨0, by omega, rfl, Below.refl _ _⟩
  case round =>
    obtain ⟨j, hj, rfl, hb⟩ := hrel
    have Hb := Lib.hid hb
    clear hb
    by_cases hlt : j < n
    · have hjl : j < fs.length := by rw [HN.out]; exact hlt
      obtain ⟨g, o, rfl, hg, hcell⟩ := HA.out (by omega)
      obtain ⟨g2, o2, rfl, hg2, hcell2⟩ := HB.out (by omega)
      obtain ⟨h0, v, h1, h2⟩ := hcell j hjl
      obtain ⟨h3, v2, h4, h5⟩ := hcell2 j hjl
      have hmj := HM.out _ (List.getElem_mem hjl)
      generalize fs[j] = f at h0 h1 h2 h3 h4 h5 hmj
      obtain ⟨x, ls⟩ := f
      simp only at h0 h1 h2 h3 h4 h5 hmj
      obtain ⟨av, cv, rfl, hls⟩ := h2
      obtain ⟨av2, cv2, rfl, hls2⟩ := h5
      obtain ⟨m, hmm⟩ : ∃ m, ls.length = m := ⟨_, rfl⟩
      rw [hmm] at h1 h4 hmj
      have HLS := Lib.hid hls
      have HLS2 := Lib.hid hls2
      have HMM := Lib.hid hmm
      have e0 := (Hb.out.cell (p := ⟨g, o + j * 2, none⟩) hg).trans h0
      have e1 := (Hb.out.cell (p := ⟨g, o + j * 2 + 1, none⟩) hg).trans h1
      have e2 := (Hb.out.cell (p := ⟨g2, o2 + j * 2, none⟩) hg2).trans h3
      have e3 := (Hb.out.cell (p := ⟨g2, o2 + j * 2 + 1, none⟩) hg2).trans h4
      obtain ⟨T, hT⟩ : ∃ T, txt x = T := ⟨_, rfl⟩
      rw [hT] at e0 e2
      have q1 : ((m : Int) != (m : Int)) = false := by simp
      have hji : (j : Int) < (n : Int) := by omega
      have hj0 : (0 : Int) ≤ (j : Int) := by omega
      have Wj : IntKind.i64.wrap ((j : Int) + 1) = (j : Int) + 1 := IntWalk.i64_in _ (by omega)
      have hm9 : (m : Int) ≤ 9223372036854775807 := by have : m ≤ 9223372036854775807 := hmj; omega
      clear h0 h1 h3 h4 hcell hcell2 hls hls2 hmm hT hmj
      go_upto_region 6 with fail
      go_quiet (fail)
      have HD := Lib.hid (fi_drewN Hb.out nq)
      have d1 : (wr.drewN nq).cell? ⟨g, o + j * 2 + 1, none⟩ = _ := e1
      have d3 : (wr.drewN nq).cell? ⟨g2, o2 + j * 2 + 1, none⟩ = _ := e3
      generalize wr.drewN nq = wd at HD d1 d3 ⊢
      clear e0 e1 e2 e3
      have D1 := Lib.hid d1
      have D3 := Lib.hid d3
      go_wp2_with fail
      go_loopw [49] (fun i wx => ∃ (k : Nat), k ≤ m ∧ i = .int .i64 k ∧ Below wd.heap.size wd wx) (fun i _ => m - (intOf i).toNat)
      case atStart => exact ⟨0, by omega, rfl, Below.refl _ _⟩
      case round =>
        obtain ⟨k, hk, rfl, hbx⟩ := hrel
        have HX := Lib.hid hbx
        clear hbx
        by_cases hlk : k < m
        · have hkl : k < ls.length := by rw [HMM.out]; exact hlk
          obtain ⟨f1, o3, rfl, hf1, hc1⟩ := HLS.out (by omega)
          obtain ⟨f2, o4, rfl, hf2, hc2⟩ := HLS2.out (by omega)
          have HWX := HD.out.trans (HX.out.mono HD.out.size)
          have r0 := (HWX.cell (p := ⟨f1, o3 + k, none⟩) hf1).trans (hc1 k hkl)
          have r1 := (HWX.cell (p := ⟨f2, o4 + k, none⟩) hf2).trans (hc2 k hkl)
          have s1 := (HX.out.cell (p := ⟨g, o + j * 2 + 1, none⟩) (Nat.lt_of_lt_of_le hg HD.out.size)).trans D1.out
          have s3 := (HX.out.cell (p := ⟨g2, o2 + j * 2 + 1, none⟩) (Nat.lt_of_lt_of_le hg2 HD.out.size)).trans D3.out
          generalize ls[k] = y at r0 r1
          obtain ⟨S, hS⟩ : ∃ S, txt y = S := ⟨_, rfl⟩
          rw [hS] at r0 r1
          have hki : (k : Int) < (m : Int) := by omega
          have hk0 : (0 : Int) ≤ (k : Int) := by omega
          have Wk : IntKind.i64.wrap ((k : Int) + 1) = (k : Int) + 1 := IntWalk.i64_in _ (by omega)
          clear hc1 hc2 hS HWX d1 d3
          go_upto_region 11 with fail
          go_quiet (fail)
          have HD2 := Lib.hid (fi_drewN HX.out nq)
          generalize wr.drewN nq = wd2 at HD2 ⊢

          go_wp2_with fail
          go_roundw
          case rel => exact ⟨k + 1, by omega, by go_num, HD2.out⟩
          case measure => simp [intOf]; omega
        · obtain rfl : m = k := by omega
          have hmm : ¬ (m : Int) < (m : Int) := by omega
          have HZ := Lib.hid (HD.out.trans (HX.out.mono HD.out.size))
          go_wp2_with fail
          go_roundw
          case rel => exact ⟨j + 1, by omega, by go_num, HZ.out⟩
          case measure => simp [intOf]; omega
    · obtain rfl : n = j := by omega
      go_wp2_with fail
      go_ret
      exact ⟨by first | rfl | trivial, Hb.out⟩
end Go.Proofs.YtnognicabhgmcaaDoor
