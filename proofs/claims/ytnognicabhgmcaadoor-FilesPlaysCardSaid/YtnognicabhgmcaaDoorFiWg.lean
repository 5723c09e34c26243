/- The document's lines of a text, walked. -/
import Derived.Test.YtnognicabhgmcaaDoorFiWf
namespace Go.Proofs.YtnognicabhgmcaaDoor
open Go Go.RowKit

theorem fi_ext (s : ByteArray) (k e : Nat) : (s.extract k e).data.toList = (s.data.toList.drop k).take (e - k) := by
  rw [ByteArray.data_extract, Array.toList_extract, List.extract_eq_take_drop]
theorem fi_ext_nil (s : ByteArray) (k : Nat) : (s.extract k k).data.toList = [] := by rw [fi_ext]; simp
theorem fi_size (s : ByteArray) : s.data.toList.length = s.size := rfl
theorem fi_drop (s : ByteArray) (j : Nat) (h : j < s.size) : s.data.toList.drop j = s[j] :: s.data.toList.drop (j + 1) := List.drop_eq_getElem_cons (show j < s.data.toList.length from h)
theorem fi_ext_snoc (s : ByteArray) (k j : Nat) (hk : k ≤ j) (h : j < s.size) : (s.extract k (j + 1)).data.toList = (s.extract k j).data.toList ++ [s[j]] := by
  rw [fi_ext, fi_ext, show j + 1 - k = (j - k) + 1 by omega, List.take_add_one, List.getElem?_drop, show k + (j - k) = j by omega]
  have : s.data.toList[j]? = some s[j] := List.getElem?_eq_getElem (show j < s.data.toList.length from h)
  rw [this]
  rfl
theorem fi_cut10 (l cur : List UInt8) (A : List (List UInt8)) : cutRun (10 :: l) cur A = cutRun l [] (A ++ [cur]) := by rw [cutRun, if_pos rfl]
theorem fi_cutn {b : UInt8} (h : b ≠ 10) (l cur : List UInt8) (A : List (List UInt8)) : cutRun (b :: l) cur A = cutRun l (cur ++ [b]) A := by rw [cutRun, if_neg h]
theorem fi_push {w wr w6 : World} {v v6 : Value} {A : List (List UInt8)} {D : ByteArray} (hb : Below w.heap.size w wr) (hr : wr.ownsRow w.heap.size 9 1 v A.length (lnC A)) (ho : w6.ownsRow w.heap.size 9 1 v6 (A.length + 1) (lnC A ++ [.string D])) (hg : (wr.alloc (.cells #[.string D] 9)).grownBy w6 v.ownBlock) :
    w6.ownsRow w.heap.size 9 1 v6 (A ++ [D.data.toList]).length (lnC (A ++ [D.data.toList])) ∧ Below w.heap.size w w6 := by
  have ha := (Below.refl wr.heap.size wr).alloc (Nat.le_refl _) (.cells #[.string D] 9)
  refine ⟨?_, (hb.trans (ha.mono hb.size)).grown hg (Nat.le_trans hb.size ha.size) fun b h => (fi_row_lt hr h).1⟩
  rw [lnC_append, List.length_append]
  show World.ownsRow _ _ _ _ _ _ (lnC A ++ [.string (txt D.data.toList)])
  rw [txt_of]
  exact ho
theorem fi_news (wr : World) (D : ByteArray) : ∀ j u, [Value.string D][j]? = some u → (wr.alloc (.cells #[.string D] 9)).cell? ((⟨wr.heap.size, 0, none⟩ : Addr).add j) = some u := fun j u hj => by
  rw [Go.WideShapes.add_plain, Nat.zero_add]
  cases j with
  | zero =>
    simp at hj
    subst hj
    exact (show Blk (wr.alloc (.cells #[.string D] 9)) wr.heap.size #[.string D] 9 from (MapKept.heap_alloc wr _).1).cell 0
  | succ j => simp at hj
set_option linter.unusedVariables false in
set_option linter.unusedSimpArgs false in
set_option maxRecDepth 100000 in
set_option maxHeartbeats 4000000 in
theorem rfcut_any (s : ByteArray) (w : World) (hs : s.size ≤ 1000) : Calls Tryd.prog 22 #[.string s] w fun e w' => ∃ v, e = .returned v ∧ LnNew w (fCut s.data.toList) v w' := by
  obtain ⟨i0, hi, hz0, hz1, hz2⟩ := str_info
  obtain ⟨R, hR⟩ : ∃ R, fCut s.data.toList = R := ⟨_, rfl⟩
  rw [hR]
  have HR := Lib.hid hR
  clear hR
  go_enter Tryd.func22, Tryd.ntmps22
  go_wp2_with fail
  go_loopw [3, 4, 8] (fun vv f i wr => ∃ (j k : Nat) (A : List (List UInt8)), j ≤ s.size ∧ k ≤ j ∧ A.length ≤ j ∧ i = .int .i64 j ∧ f = .int .i64 k ∧ wr.ownsRow w.heap.size 9 1 vv A.length (lnC A) ∧ Below w.heap.size w wr ∧ cutRun (s.data.toList.drop j) (s.extract k j).data.toList A = R) (fun _ _ i _ => s.size - (intOf i).toNat)
  case atStart => exact ⟨0, 0, [], by omega, by omega, by simp, rfl, rfl, World.ownsRow_nil _ _ _ _, Below.refl _ _, by rw [fi_ext_nil]; exact HR.out⟩
  case round =>
    obtain ⟨j, k, A, hj, hk, hA, rfl, rfl, hrow, hb, hrun⟩ := hrel
    have Hb := Lib.hid hb
    have Hrow := Lib.hid hrow
    have HU := Lib.hid hrun
    obtain ⟨a, c, rfl, _⟩ := fi_row_cells hrow
    obtain ⟨m, hm⟩ : ∃ m, A.length = m := ⟨_, rfl⟩
    have HM := Lib.hid hm
    rw [hm] at hA
    have hkj : (k : Int) ≤ (j : Int) := by omega
    have hks : (k : Int) ≤ (s.size : Int) := by omega
    have hk0 : (0 : Int) ≤ (k : Int) := by omega
    have hj0 : (0 : Int) ≤ (j : Int) := by omega
    have hjs : (j : Int) ≤ (s.size : Int) := by omega
    have hm1 : m + 1 ≤ maxLen := by unfold maxLen; omega
    have hm2 : (m + 1) * 16 ≤ 140737488355328 := by omega
    have hrow2 := fun D : ByteArray => fi_row_below hrow ((Below.refl wr.heap.size wr).alloc (Nat.le_refl _) (.cells #[.string D] 9))
    rw [hm] at hrow2
    have HR2 := Lib.hid hrow2
    have hlo := fun D : ByteArray => Nat.le_trans hb.size ((Below.refl wr.heap.size wr).alloc (Nat.le_refl _) (.cells #[.string D] 9)).size
    have HLO := Lib.hid hlo
    rw [hm]
    clear hb hrow hrun hm hrow2 hlo
    by_cases hlt : j < s.size
    · have hji : (j : Int) < (s.size : Int) := by omega
      have Wj : IntKind.i64.wrap ((j : Int) + 1) = (j : Int) + 1 := IntWalk.i64_in _ (by omega)
      have Hd := Lib.hid (fi_drop s j hlt)
      have He := Lib.hid (fi_ext_snoc s k j hk hlt)
      by_cases h10 : s[j] = 10
      · have q10 : ((s[j].toNat : Int) == 10) = true := by rw [h10]; rfl
        have Hx := Lib.hid h10
        clear h10
        go_wp2_with (at_builtin; go_loud (refine wpList_append_any _ rfl _ _ 36 rfl w.heap.size 9 i0 (.string ⟨#[]⟩) 1 16 Tryd.underlying36 hi hz0 hz1 hz2 rfl (by decide) (.slice a m c) m (lnC A) rfl (HR2.out _) (some ⟨wr.heap.size, 0, none⟩) 1 1 [.string (s.extract k j)] rfl rfl (fun _ => ⟨_, rfl, fi_news wr _⟩) (by simp [Value.oneCell']) hm1 hm2 (HLO.out _) ?_; intro v6 w6 hown6 hgr6 hat6))
        have HF := Lib.hid (fi_push Hb.out Hrow.out (by rw [HM.out]; exact hown6) (by rw [HM.out]; exact hgr6))
        clear hown6 hgr6 hat6
        go_roundw
        case rel => exact ⟨j + 1, j + 1, A ++ [(s.extract k j).data.toList], by omega, by omega, by rw [List.length_append, HM.out]; simp; omega, by go_num, by go_num, HF.out.1, HF.out.2, by rw [← HU.out, Hd.out, Hx.out, fi_cut10, fi_ext_nil]⟩
        case measure => simp [intOf]; omega
      · have q10 : ((s[j].toNat : Int) == 10) = false := beq_eq_false_iff_ne.2 fun h => h10 (UInt8.toNat_inj.1 (by show s[j].toNat = 10; omega))
        have Hx := Lib.hid h10
        clear h10
        go_wp2_with fail
        go_roundw
        case rel => exact ⟨j + 1, k, A, by omega, by omega, by rw [HM.out]; omega, by go_num, rfl, by have h := Hrow.out; rw [HM.out] at h ⊢; exact h, Hb.out, by rw [← HU.out, Hd.out, fi_cutn Hx.out, He.out]⟩
        case measure => simp [intOf]; omega
    · obtain rfl : j = s.size := by omega
      have hn : ¬ (s.size : Int) < (s.size : Int) := by omega
      have Hd := Lib.hid (show s.data.toList.drop s.size = [] from List.drop_eq_nil_of_le (Nat.le_refl _))
      go_wp2_with (at_builtin; go_loud (refine wpList_append_any _ rfl _ _ 36 rfl w.heap.size 9 i0 (.string ⟨#[]⟩) 1 16 Tryd.underlying36 hi hz0 hz1 hz2 rfl (by decide) (.slice a m c) m (lnC A) rfl (HR2.out _) (some ⟨wr.heap.size, 0, none⟩) 1 1 [.string (s.extract k s.size)] rfl rfl (fun _ => ⟨_, rfl, fi_news wr _⟩) (by simp [Value.oneCell']) hm1 hm2 (HLO.out _) ?_; intro v6 w6 hown6 hgr6 hat6))
      have HF := Lib.hid (fi_push Hb.out Hrow.out (by rw [HM.out]; exact hown6) (by rw [HM.out]; exact hgr6))
      clear hown6 hgr6 hat6
      go_wp2_with fail
      go_ret
      refine ⟨_, rfl, ?_⟩
      rw [← HU.out, Hd.out]
      exact HF.out
end Go.Proofs.YtnognicabhgmcaaDoor
