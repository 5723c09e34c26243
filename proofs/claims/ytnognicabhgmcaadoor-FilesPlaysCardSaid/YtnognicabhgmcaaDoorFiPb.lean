/- The document's files, walked: Put. -/
import Derived.Test.YtnognicabhgmcaaDoorFiPa
namespace Go.Proofs.YtnognicabhgmcaaDoor
open Go Go.RowKit

theorem putRun_step (n : List UInt8) (x : List (List UInt8)) (f : Fl) (l : List Fl) (done : Bool) (O : List Fl) : putRun n x (f :: l) done O = putRun n x l (done || !bl f.1 n) (if f.1 = n then (if (!done && !bl f.1 n) = true then O ++ [(n, x)] else O) else (if (!done && !bl f.1 n) = true then O ++ [(n, x)] else O) ++ [f]) := rfl
theorem geq_str (W : World) (x y : ByteArray) : (binOp .geq 9 (.string x) (.string y)).run Tryd.prog W = .ok (.bool (!Op.bytesLess x.toList y.toList)) W := by simp [binOp, Op.stringOp, Sem.run_pure]
set_option linter.unusedVariables false in
set_option linter.unusedSimpArgs false in
set_option maxRecDepth 100000 in
set_option maxHeartbeats 8000000 in
theorem rfput_any {G : Nat → Prop} {B : Nat} (fs : List Fl) (vl : Value) (xb : ByteArray) (y : Value) (ls : List (List UInt8)) (w : World) (h : FsOwn 50 G w B vl fs) (hy : LnG G w y ls) (hl : fs.length ≤ 500) :
    Calls Tryd.prog 13 #[vl, .string xb, y] w fun e w' => ∃ a c, e = .returned (.slice a (fPut fs xb.data.toList ls).length c) ∧ FsOwn 50 G w' w.heap.size (.slice a (fPut fs xb.data.toList ls).length c) (fPut fs xb.data.toList ls) ∧ Below w.heap.size w w' := by
  obtain ⟨a, c, rfl⟩ := h.form
  obtain ⟨L, rfl, hrow, hc⟩ := h.cells
  obtain ⟨n, hn⟩ : ∃ n, L.length = n := ⟨_, rfl⟩
  have hfn : (L.map (·.1)).length = n := by rw [List.length_map, hn]
  obtain ⟨R, hR⟩ : ∃ R, fPut (L.map (·.1)) xb.data.toList ls = R := ⟨_, rfl⟩
  rw [hfn] at hl
  rw [hR, hfn]
  obtain ⟨ya, yc, rfl, _⟩ := fi_row_cells hy.1
  obtain ⟨ym, hym⟩ : ∃ ym, ls.length = ym := ⟨_, rfl⟩
  have HY := Lib.hid hy
  have HYM := Lib.hid hym
  rw [hym]
  have HC := Lib.hid hc
  have HRW := Lib.hid hrow
  have HN := Lib.hid hn
  have HFN := Lib.hid hfn
  have HRR := Lib.hid hR
  have hxb : xb = txt xb.data.toList := (txt_of xb).symm
  have HXB := Lib.hid hxb
  clear h hc hrow hn hfn hR hy hym hxb
  go_enter Tryd.func13, Tryd.ntmps13
  go_wp2_with fail
  go_loopw [7, 8, 12] (fun vv dv i wr => ∃ (j : Nat) (done : Bool) (O : List Fl), j ≤ n ∧ i = .int .i64 j ∧ dv = .bool done ∧ O.length ≤ 2 * j ∧ FsOwn 50 G wr w.heap.size vv O ∧ Below w.heap.size w wr ∧ putRun xb.data.toList ls ((L.map (·.1)).drop j) done O = R) (fun _ _ i _ => n - (intOf i).toNat)
  case atStart => exact ⟨0, false, [], by omega, rfl, rfl, by simp, FsOwn.nil _ _ _ _, Below.refl _ _, HRR.out⟩
  case round =>
    obtain ⟨j, done, O, hj, rfl, rfl, hOl, hO, hb, hrun⟩ := hrel
    obtain ⟨va, vc, rfl⟩ := hO.form
    obtain ⟨k, hk⟩ : ∃ k, O.length = k := ⟨_, rfl⟩
    rw [hk] at hO hOl ⊢
    have HK := Lib.hid hk
    have HO := Lib.hid hO
    have Hb := Lib.hid hb
    have HRUN := Lib.hid hrun
    clear hO hb hrun hk
    by_cases hlt : j < n
    · have hjl : j < L.length := by rw [HN.out]; omega
      obtain ⟨g, rfl, hg, hcell⟩ := HC.out (by omega)
      obtain ⟨h0, h1⟩ := hcell j hjl
      have e0 := (Hb.out.cell (p := ⟨g, j * 2, none⟩) hg).trans h0
      have e1 := (Hb.out.cell (p := ⟨g, j * 2 + 1, none⟩) hg).trans h1
      have hx := HRW.out _ (List.getElem_mem hjl)
      have hdr : (L.map (·.1)).drop j = L[j].1 :: (L.map (·.1)).drop (j + 1) := by rw [List.drop_eq_getElem_cons (by rw [List.length_map]; exact hjl), List.getElem_map]
      generalize L[j] = z at e0 e1 hx hdr
      obtain ⟨⟨x, lx⟩, v⟩ := z
      simp only at e0 e1 hx hdr
      have HX := Lib.hid (hx.below (show Below w.heap.size w wr from Hb.out))
      obtain ⟨av, cv, rfl, _⟩ := fi_row_cells hx.1
      have HXW := Lib.hid hx
      obtain ⟨m, hm⟩ : ∃ m, lx.length = m := ⟨_, rfl⟩
      have HM := Lib.hid hm
      rw [hm] at e1
      obtain ⟨T, hT⟩ : ∃ T, txt x = T := ⟨_, rfl⟩
      rw [hT] at e0
      have HT := Lib.hid hT
      have hTx : T.data.toList = x := by rw [← hT]; rfl
      have hq := beq_str (x := T) (y := xb)
      rw [hTx] at hq
      have hr1 := HRUN.out
      rw [hdr, putRun_step] at hr1
      simp only at hr1
      have hji : (j : Int) < (n : Int) := by omega
      have hj0 : (0 : Int) ≤ (j : Int) := by omega
      have Wj : IntKind.i64.wrap ((j : Int) + 1) = (j : Int) + 1 := IntWalk.i64_in _ (by omega)
      have HHR := Lib.hid hr1
      clear h0 h1 hcell hdr hx hm hT hr1
      have hb2 : ∀ W, (binOp .geq 9 (.string T) (.string xb)).run Tryd.prog W = .ok (.bool (!bl x xb.data.toList)) W := fun W => by rw [geq_str, ByteArray.toList_eq, ByteArray.toList_eq, hTx]
      have HYR := Lib.hid (show LnG G wr (.slice ya ym yc) ls by rw [← HYM.out]; exact HY.out.below Hb.out)
      have HXR := Lib.hid (show LnG G wr (.slice av m cv) lx by rw [← HM.out]; exact HX.out)
      clear hTx
      cases done with
      | true =>
        clear hb2
        by_cases he : x = xb.data.toList
        · rw [decide_eq_true he] at hq
          have HZ := Lib.hid (show putRun xb.data.toList ls ((L.map (·.1)).drop (j + 1)) true O = R by have h := HHR.out; simpa [he] using h)
          clear he
          go_wp2_with fail
          go_roundw
          case rel => exact ⟨j + 1, true, O, by omega, by go_num, rfl, by rw [HK.out]; omega, HO.out, Hb.out, HZ.out⟩
          case measure => simp [intOf]; omega
        · rw [decide_eq_false he] at hq
          have HZ := Lib.hid (show putRun xb.data.toList ls ((L.map (·.1)).drop (j + 1)) true (O ++ [(x, lx)]) = R by have h := HHR.out; simpa [he] using h)
          clear he
          go_wp2_with (at_builtin; go_loud (refine wpList_push (f := (x, lx)) rfl _ _ rfl rfl rfl HO.out HT.out.symm HXR.out HK.out (by omega) Hb.out.size ?_; intro a8 c8 w8 hO8 hb8))
          have HO8 := Lib.hid (And.intro hO8 (Hb.out.trans hb8))
          clear hO8 hb8
          go_roundw
          case rel => exact ⟨j + 1, true, O ++ [(x, lx)], by omega, by go_num, rfl, by rw [List.length_append, HK.out]; simp; omega, HO8.out.1, HO8.out.2, HZ.out⟩
          case measure => simp [intOf]; omega
      | false =>
        by_cases hbl : bl x xb.data.toList = true
        · simp only [hbl, Bool.not_true] at hb2
          have he : x ≠ xb.data.toList := bl_ne hbl
          rw [decide_eq_false he] at hq
          have HZ := Lib.hid (show putRun xb.data.toList ls ((L.map (·.1)).drop (j + 1)) false (O ++ [(x, lx)]) = R by have h := HHR.out; simpa [he, hbl] using h)
          clear he hbl
          go_wp2_with (at_builtin; go_loud (refine wpList_push (f := (x, lx)) rfl _ _ rfl rfl rfl HO.out HT.out.symm HXR.out HK.out (by omega) Hb.out.size ?_; intro a8 c8 w8 hO8 hb8))
          have HO8 := Lib.hid (And.intro hO8 (Hb.out.trans hb8))
          clear hO8 hb8
          go_roundw
          case rel => exact ⟨j + 1, false, O ++ [(x, lx)], by omega, by go_num, rfl, by rw [List.length_append, HK.out]; simp; omega, HO8.out.1, HO8.out.2, HZ.out⟩
          case measure => simp [intOf]; omega
        · have hbl2 : bl x xb.data.toList = false := by simpa using hbl
          simp only [hbl2, Bool.not_false] at hb2
          clear hbl
          go_upto_region 9 with (at_builtin; go_loud (refine wpList_push (f := (xb.data.toList, ls)) rfl _ _ rfl rfl rfl HO.out HXB.out HYR.out HK.out (by omega) Hb.out.size ?_; intro a7 c7 w7 hO7 hb7))
          have HO7 := Lib.hid (And.intro hO7 (Hb.out.trans hb7))
          have e7 := (HO7.out.2.cell (p := ⟨g, j * 2, none⟩) hg).trans ((Hb.out.cell (p := ⟨g, j * 2, none⟩) hg).symm.trans e0)
          have f7 := (HO7.out.2.cell (p := ⟨g, j * 2 + 1, none⟩) hg).trans ((Hb.out.cell (p := ⟨g, j * 2 + 1, none⟩) hg).symm.trans e1)
          have HK7 := Lib.hid (show (O ++ [(xb.data.toList, ls)]).length = k + 1 by rw [List.length_append, HK.out]; rfl)
          have HX7 := Lib.hid (show LnG G w7 (.slice av m cv) lx by rw [← HM.out]; exact (show LnG G w (.slice av lx.length cv) lx from HXW.out).below HO7.out.2)
          clear hO7 hb7
          by_cases he : x = xb.data.toList
          · rw [decide_eq_true he] at hq
            have HZ := Lib.hid (show putRun xb.data.toList ls ((L.map (·.1)).drop (j + 1)) true (O ++ [(xb.data.toList, ls)]) = R by have h := HHR.out; rw [he] at hbl2; simpa [he, hbl2] using h)
            clear he hbl2
            go_wp2_with fail
            go_roundw
            case rel => exact ⟨j + 1, true, O ++ [(xb.data.toList, ls)], by omega, by go_num, rfl, by rw [HK7.out]; omega, HO7.out.1, HO7.out.2, HZ.out⟩
            case measure => simp [intOf]; omega
          · rw [decide_eq_false he] at hq
            have HZ := Lib.hid (show putRun xb.data.toList ls ((L.map (·.1)).drop (j + 1)) true (O ++ [(xb.data.toList, ls)] ++ [(x, lx)]) = R by have h := HHR.out; simpa [he, hbl2] using h)
            clear he hbl2
            go_wp2_with (at_builtin; go_loud (refine wpList_push (f := (x, lx)) rfl _ _ rfl rfl rfl HO7.out.1 HT.out.symm HX7.out HK7.out (by omega) HO7.out.2.size ?_; intro a8 c8 w8 hO8 hb8))
            have HO8 := Lib.hid (And.intro hO8 (HO7.out.2.trans hb8))
            clear hO8 hb8
            go_roundw
            case rel => exact ⟨j + 1, true, O ++ [(xb.data.toList, ls)] ++ [(x, lx)], by omega, by go_num, rfl, by rw [List.length_append, HK7.out]; simp; omega, HO8.out.1, HO8.out.2, HZ.out⟩
            case measure => simp [intOf]; omega
    · obtain rfl : n = j := by omega
      have hr1 := HRUN.out
      rw [List.drop_eq_nil_of_le (by rw [HFN.out]; exact Nat.le_refl _)] at hr1
      cases done with
      | true =>
        have HZ := Lib.hid (show O = R from hr1)
        clear hr1
        go_wp2_with fail
        go_ret
        refine ⟨va, vc, ?_, ?_, Hb.out⟩
        · rw [← HZ.out, HK.out]; rfl
        · have h := HO.out
          rw [← HK.out, HZ.out] at h
          exact h
      | false =>
        have HZ := Lib.hid (show O ++ [(xb.data.toList, ls)] = R from hr1)
        have HYR := Lib.hid (show LnG G wr (.slice ya ym yc) ls by rw [← HYM.out]; exact HY.out.below Hb.out)
        clear hr1
        go_wp2_with (at_builtin; go_loud (refine wpList_push (f := (xb.data.toList, ls)) rfl _ _ rfl rfl rfl HO.out HXB.out HYR.out HK.out (by omega) Hb.out.size ?_; intro a7 c7 w7 hO7 hb7))
        have HO7 := Lib.hid (And.intro hO7 (Hb.out.trans hb7))
        clear hO7 hb7
        go_ret
        refine ⟨a7, c7, ?_, ?_, HO7.out.2⟩
        · rw [← HZ.out, List.length_append, HK.out]; rfl
        · have h := HO7.out.1
          rw [show k + 1 = R.length by rw [← HZ.out, List.length_append, HK.out]; rfl, HZ.out] at h
          exact h
end Go.Proofs.YtnognicabhgmcaaDoor
