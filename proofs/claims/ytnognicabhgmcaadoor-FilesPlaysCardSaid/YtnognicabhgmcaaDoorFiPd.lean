/- The document's files, walked: New. -/
import Derived.Test.YtnognicabhgmcaaDoorFiPc
namespace Go.Proofs.YtnognicabhgmcaaDoor
open Go Go.RowKit

theorem put_len (n : List UInt8) (x : List (List UInt8)) : ∀ (l : List Fl), (put n x l).length ≤ l.length + 1
  | [] => by simp [put]
  | f :: l => by
    unfold put
    split
    · have := put_len n x l; simp; omega
    split
    · simp
    · simp
theorem new_len (l : List Fl) : ∀ j, (fNew (l.take j)).length ≤ j
  | 0 => by simp [fNew, fNewRun]
  | j + 1 => by
    have h := new_len l j
    by_cases hj : j < l.length
    · rw [fi_take l j hj, new_snoc]
      have := put_len l[j].1 (l[j].2.flatMap fCut) (fNew (l.take j))
      omega
    · rw [List.take_of_length_le (by omega)] at h ⊢
      omega
set_option linter.unusedVariables false in
set_option linter.unusedSimpArgs false in
set_option maxRecDepth 100000 in
set_option maxHeartbeats 8000000 in
theorem rfnew_any (fs : List Fl) (a : Option Addr) (c : Nat) (w : World) (hr : FsRd w a fs) (hf : FsFew fs) : Calls Tryd.prog 9 #[.slice a fs.length c] w fun e w' => ∃ a' c', e = .returned (.slice a' (fNew fs).length c') ∧ FsOwn 50 (fun b => w.heap.size ≤ b) w' w.heap.size (.slice a' (fNew fs).length c') (fNew fs) ∧ Below w.heap.size w w' := by
  obtain ⟨n, hn⟩ : ∃ n, fs.length = n := ⟨_, rfl⟩
  obtain ⟨i0, hi, hz0, hz1, hz2⟩ := str_info
  have hln : n ≤ 10 := by rw [← hn]; exact hf.1
  rw [hn]
  have HR := Lib.hid hr
  have HF := Lib.hid hf
  have HN := Lib.hid hn
  clear hr hf hn
  go_enter Tryd.func9, Tryd.ntmps9
  go_wp2_with fail
  go_loopw [3, 9] (fun vv i wr => ∃ (j : Nat), j ≤ n ∧ i = .int .i64 j ∧ FsOwn 50 (fun b => w.heap.size ≤ b) wr w.heap.size vv (fNew (fs.take j)) ∧ Below w.heap.size w wr) (fun _ i _ => n - (intOf i).toNat)
  case atStart => exact ⟨0, by omega, rfl, FsOwn.nil _ _ _ _, Below.refl _ _⟩
  case round =>
    obtain ⟨j, hj, rfl, hO, hb⟩ := hrel
    have HO := Lib.hid hO
    have Hb := Lib.hid hb
    clear hO hb
    by_cases hlt : j < n
    · obtain ⟨g, o, rfl, hg, hcell⟩ := HR.out (by rw [HN.out]; omega)
      have hjl : j < fs.length := by rw [HN.out]; omega
      obtain ⟨h0, v, h1, h2⟩ := hcell j hjl
      have hff := HF.out.2 fs[j] (List.getElem_mem hjl)
      have htk : fNew (fs.take (j + 1)) = fPut (fNew (fs.take j)) fs[j].1 (fs[j].2.flatMap fCut) := by
        rw [fi_take fs j hjl, new_snoc, fPut_put (fNew_srt _)]
      generalize fs[j] = f at h0 h1 hff htk h2
      obtain ⟨x, ls⟩ := f
      simp only at h0 h1 hff htk h2
      obtain ⟨av, cv, rfl, hls⟩ := h2
      obtain ⟨m, hm⟩ : ∃ m, ls.length = m := ⟨_, rfl⟩
      rw [hm] at h1
      obtain ⟨T, hT⟩ : ∃ T, txt x = T := ⟨_, rfl⟩
      rw [hT] at h0
      have hTx : T.data.toList = x := by rw [← hT]; rfl
      have HTX := Lib.hid hTx
      have e0 := (Hb.out.cell (p := ⟨g, o + j * 2, none⟩) hg).trans h0
      have e1 := (Hb.out.cell (p := ⟨g, o + j * 2 + 1, none⟩) hg).trans h1
      have H0 := Lib.hid h0
      have H1 := Lib.hid h1
      have HLS := Lib.hid hls
      have HM := Lib.hid hm
      have HTK := Lib.hid htk
      have HFF := Lib.hid hff
      have hji : (j : Int) < (n : Int) := by omega
      have hj0 : (0 : Int) ≤ (j : Int) := by omega
      have Wj : IntKind.i64.wrap ((j : Int) + 1) = (j : Int) + 1 := IntWalk.i64_in _ (by omega)
      have hm30 : m ≤ 30 := by rw [← hm]; exact hff.2.1
      clear h0 h1 hcell htk hff hls hm hT hTx
      go_wp2_with fail
      obtain ⟨wq, rfl⟩ : ∃ wq, wq = wr := ⟨_, rfl⟩
      go_loopw [5, 18] (fun vv2 i wx => ∃ (k : Nat), k ≤ m ∧ i = .int .i64 k ∧ wx.ownsRow wq.heap.size 9 1 vv2 ((ls.take k).flatMap fCut).length (lnC ((ls.take k).flatMap fCut)) ∧ Below wq.heap.size wq wx) (fun _ i _ => m - (intOf i).toNat)
      case atStart => exact ⟨0, by omega, rfl, World.ownsRow_nil _ _ _ _, Below.refl _ _⟩
      case round =>
        obtain ⟨k, hk, rfl, hrow, hbx⟩ := hrel
        have HBX := Lib.hid hbx
        have HB := Lib.hid (show Below w.heap.size w wr from Hb.out.trans (hbx.mono Hb.out.size))
        have Hrow := Lib.hid hrow
        clear hbx
        have s0 := (HB.out.cell (p := ⟨g, o + j * 2, none⟩) hg).trans H0.out
        have s1 := (HB.out.cell (p := ⟨g, o + j * 2 + 1, none⟩) hg).trans H1.out
        by_cases hlk : k < m
        · obtain ⟨g2, o2, rfl, hg2, hc2⟩ := HLS.out (by rw [HM.out]; omega)
          have hkl : k < ls.length := by rw [HM.out]; exact hlk
          have r0 := (HB.out.cell (p := ⟨g2, o2 + k, none⟩) hg2).trans (hc2 k hkl)
          have htk2 : (ls.take (k + 1)).flatMap fCut = (ls.take k).flatMap fCut ++ fCut ls[k] := by
            rw [fi_take ls k hkl, List.flatMap_append, List.flatMap_singleton]
          have hxs := HFF.out.2.2 ls[k] (List.getElem_mem hkl)
          have hfl := flat_len (ls.take k) fun x hx => Nat.le_trans (HFF.out.2.2 x (List.mem_of_mem_take hx)) (by decide)
          rw [List.length_take] at hfl
          generalize ls[k] = y at r0 htk2 hxs
          have hC := rfcut_any (txt y) wr (by rw [txt_size]; omega)
          rw [txt_list] at hC
          have hcl := cut_len y
          obtain ⟨S, hS⟩ : ∃ S, txt y = S := ⟨_, rfl⟩
          rw [hS] at r0 hC
          generalize fCut y = K at hC htk2 hcl
          generalize (ls.take k).flatMap fCut = A at hrow Hrow htk2 hfl
          obtain ⟨aa, ac, rfl, _⟩ := fi_row_cells hrow
          have HT2 := Lib.hid htk2
          obtain ⟨q, hq⟩ : ∃ q, A.length = q := ⟨_, rfl⟩
          obtain ⟨q2, hq2⟩ : ∃ q2, K.length = q2 := ⟨_, rfl⟩
          rw [hq] at hfl Hrow ⊢
          rw [hq2] at hcl
          have m3 : q + q2 ≤ maxLen := by unfold maxLen; omega
          have m4 : (q + q2) * 16 ≤ 140737488355328 := by omega
          have m5 : (lnC K).length = q2 * 1 := by rw [lnC_len]; omega
          have HQ := Lib.hid hq
          have HQ2 := Lib.hid hq2
          have hki : (k : Int) < (m : Int) := by omega
          have hk0 : (0 : Int) ≤ (k : Int) := by omega
          have Wk : IntKind.i64.wrap ((k : Int) + 1) = (k : Int) + 1 := IntWalk.i64_in _ (by omega)
          clear hc2 htk2 hxs hfl hcl hq hq2 hrow hS
          go_wp2_with (first
            | (go_at_call 22; refine hC.mono ?_; clear hC; rintro e w4 ⟨v4, rfl, h4⟩; have H4 := Lib.hid h4; obtain ⟨a4, c4, rfl, hr4⟩ := ln_read h4; rw [HQ2.out] at hr4 ⊢; have R4 := Lib.hid hr4; clear h4 hr4)
            | (at_builtin; go_loud (refine wpList_append_any _ rfl _ _ 36 rfl wq.heap.size 9 i0 (.string ⟨#[]⟩) 1 16 Tryd.underlying36 hi hz0 hz1 hz2 rfl (by decide) (.slice aa q ac) q (lnC A) rfl (fi_row_below Hrow.out H4.out.2) a4 q2 c4 (lnC K) rfl m5 R4.out (lnC_one K) m3 m4 (Nat.le_trans HBX.out.size H4.out.2.size) ?_; intro v6 w6 hown6 hgr6 hat6)))
          have HF6 := Lib.hid (show w6.ownsRow wq.heap.size 9 1 v6 ((ls.take (k + 1)).flatMap fCut).length (lnC ((ls.take (k + 1)).flatMap fCut)) ∧ Below wq.heap.size wq w6 from by
            rw [HT2.out, List.length_append, lnC_append, HQ.out, HQ2.out]
            exact ⟨hown6, (HBX.out.trans (H4.out.2.mono HBX.out.size)).grown hgr6 (Nat.le_trans HBX.out.size H4.out.2.size) fun b hb => (fi_row_lt Hrow.out hb).1⟩)
          clear hown6 hgr6 hat6
          go_roundw
          case rel => exact ⟨k + 1, by omega, by go_num, HF6.out.1, HF6.out.2⟩
          case measure => simp [intOf]; omega
        · obtain rfl : m = k := by omega
          rw [show ls.take m = ls by rw [← HM.out, List.take_length]] at hrow
          obtain ⟨aa, ac, rfl, _⟩ := fi_row_cells hrow
          have hmm : ¬ (m : Int) < (m : Int) := by omega
          have hP := rfput_any (fNew (fs.take j)) _ T _ (ls.flatMap fCut) wr (HO.out.below HBX.out) ((LnG.base hrow).wider fun b _ h => Nat.le_trans Hb.out.size h) (Nat.le_trans (new_len fs j) (by omega))
          rw [HTX.out, ← HTK.out] at hP
          obtain ⟨q, hq⟩ : ∃ q, (ls.flatMap fCut).length = q := ⟨_, rfl⟩
          rw [hq] at hP ⊢
          clear hrow hq
          go_wp2_with (go_at_call 13; refine hP.mono ?_; clear hP; rintro e w8 ⟨a8, c8, rfl, h8, b8⟩)
          have HZ := Lib.hid (And.intro (h8.mono (B' := w.heap.size) HB.out.size fun _ _ h => h) (HB.out.trans (b8.mono HB.out.size)))
          clear h8 b8
          go_roundw
          case rel => exact ⟨j + 1, by omega, by go_num, HZ.out.1, HZ.out.2⟩
          case measure => simp [intOf]; omega
    · obtain rfl : n = j := by omega
      have hO := HO.out
      rw [show fs.take n = fs by rw [← HN.out, List.take_length]] at hO
      obtain ⟨a9, c9, rfl⟩ := hO.form
      have HZ := Lib.hid hO
      go_wp2_with fail
      go_ret
      exact ⟨a9, c9, rfl, HZ.out, Hb.out⟩
end Go.Proofs.YtnognicabhgmcaaDoor
