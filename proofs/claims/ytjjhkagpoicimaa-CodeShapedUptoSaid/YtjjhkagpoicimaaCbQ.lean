/- The closure that sets an Alt's jumps. -/
import Derived.Test.YtjjhkagpoicimaaCbP
namespace Go.Proofs.Ytjjhkagpoicimaa
open Go Go.RowKit

/-- A row of jumps as it is read. -/
theorem jrow_cells {B n : Nat} {w : World} {jv : Value} {js : List Nat} (h : w.ownsRow B 3 1 jv js.length (jvOf js)) (h0 : 0 < js.length) (hn : n = js.length) :
    ∃ q c, jv = .slice (some ⟨q, 0, none⟩) n c ∧ q < w.heap.size ∧ n ≤ 9223372036854775807 ∧ ∀ j (hj : j < js.length), w.cell? ⟨q, j, none⟩ = some (.int .i64 (js[j] : Int)) := by
  subst hn
  obtain ⟨_, h⟩ := h
  rcases h with ⟨_, h⟩ | ⟨g, cap, cur, rfl, _, hg, hnc, hcm, hcs, htake⟩
  · omega
  · refine ⟨g, cap, rfl, (Array.getElem?_eq_some_iff.1 hg).1, by unfold maxLen at hcm; omega, fun j hj => ?_⟩
    have h4 : w.cell? ⟨g, j, none⟩ = cur[j]? := by simp [World.cell?, hg]
    have h5 : (jvOf js)[j]? = some (.int .i64 (js[j] : Int)) := by simp [jvOf, hj]
    rw [h4, ← h5, ← htake, List.getElem?_take_of_lt (by omega), Array.getElem?_toList]

set_option linter.unusedVariables false in
set_option linter.unusedSimpArgs false in
set_option maxRecDepth 100000 in
set_option maxHeartbeats 4000000 in
theorem task_jumps {B p : Nat} {l : List Inn} {g : Int} {k : Nat} {bk : Bool} {iv tv v jv : Value} {ts : List CTk} {us jvs : List Value} (js : List Nat) (w : World) (h : Sta B p w l g k bk iv tv ts us jvs jv) (ht : TkAt B p (OffT p iv tv (jv :: jvs)) w (.jumps js) v jv) (hf : Fit l.length k (.jumps js)) (hpos : 0 < l.length) (hbd : Bd l) (hus : us.length ≤ 4000000) (hl : l.length ≤ 3000) (hk : k ≤ l.length) :
    ∃ x y, v = .func (.func 55) #[] #[ptr y, ptr x] ∧ Calls Try.prog 55 #[ptr y, ptr x] w (Did B p g bk w l k (.jumps js) ts us) := by
  obtain ⟨hrow, x, y, rfl, bx, by'⟩ := ht
  refine ⟨x, y, rfl, ?_⟩
  obtain ⟨n, hn⟩ : ∃ n, js.length = n := ⟨_, rfl⟩
  obtain ⟨V, hV⟩ : ∃ V, l.length = V := ⟨_, rfl⟩
  have hst : stp (.jumps js) l k = ((patch (V : Int) js l, k), []) := by rw [stp, hV]
  have Hst := Lib.hid hst
  have c0 := bx.2.2
  have c1 := by'.2.2
  have hxl := bx.2.1
  have hxo := bx.1.1
  have Hh := Lib.hid h
  have Hf := Lib.hid (show ∀ j ∈ js, j < l.length from hf)
  obtain ⟨ia, ic, rfl⟩ := co_form h.bld.io
  have hvj : ∃ ja jc, jv = .slice ja n jc := by rw [← hn]; exact co_form hrow
  obtain ⟨ja, jc, rfl⟩ := hvj
  have hrd : 0 < n → ∃ q, ja = some ⟨q, 0, none⟩ ∧ q < w.heap.size ∧ n ≤ 9223372036854775807 ∧ OffC p (.slice ia l.length ic) tv q ∧ ∀ j (hj : j < js.length), w.cell? ⟨q, j, none⟩ = some (.int .i64 (js[j] : Int)) := fun h0 => by
    obtain ⟨q, c, e1, e2, e0, e3⟩ := jrow_cells hrow (by omega) hn.symm
    injection e1 with e1 _ _
    subst e1
    exact ⟨q, rfl, e2, e0, (h.jb _ (List.mem_cons_self ..) q rfl).1, e3⟩
  have Hrd := Lib.hid hrd
  clear h bx by' hrow hrd hf hst
  go_enter Try.func55, Try.ntmps55
  go_wp2_with fail
  go_loopw [6] (fun j wr => ∃ (i : Nat) (L : List Inn), i ≤ n ∧ j = .int .i64 i ∧ L.length = l.length ∧ Bld B p wr L g k bk (.slice ia l.length ic) tv us.reverse ∧ CStep p w (.slice ia l.length ic) tv wr (.slice ia l.length ic) tv ∧ patch (V : Int) (js.drop i) L = patch (V : Int) js l) (fun j _ => n - (intOf j).toNat)
  case atStart => exact ⟨0, l, by omega, rfl, rfl, Hh.out.bld, CStep.refl _ _ _ _, rfl⟩
  case round =>
    obtain ⟨i, L, hi, rfl, hL, hB, hC, hP⟩ := hrel
    have hb0 := ((hC.keep x hxo hxl).2 0).trans c0
    by_cases hlt : i < n
    · have hlti : (i : Int) < (n : Int) := by omega
      obtain ⟨q, rfl, hq, hnm, hqo, hqc⟩ := Hrd.out (by omega)
      have Wi : IntKind.i64.wrap ((i : Int) + 1) = (i : Int) + 1 := IntWalk.i64_in _ (by omega)
      have hji := ((hC.keep q hqo hq).2 i).trans (hqc i (by omega))
      have hJl : js[i] < l.length := Hf.out _ (List.getElem_mem (by omega))
      have hdrop : js.drop i = js[i] :: js.drop (i + 1) := List.drop_eq_getElem_cons (by omega)
      obtain ⟨J, hJ⟩ : ∃ J, js[i] = J := ⟨_, rfl⟩
      rw [hJ] at hji hJl hdrop
      rw [hdrop, patch] at hP
      have hJi : (J : Int) < (l.length : Int) := by omega
      rw [← hL] at hB
      obtain ⟨hlc, hcm, q0, rfl, hBq, hq0, hqp, hcell, hfz⟩ := hB.inst (by omega)
      have hfy := hfz (J * 7 + 5)
      have hcy : wr.cell? ⟨q0, J * 7 + 5, none⟩ = some (.int .i64 (L[J]'(by omega)).x) := (hcell J (by omega) 5 (by omega)).trans rfl
      have p0 := hB.cells.c0
      have hd2 : Below wr.heap.size wr wr.drew := Below.drew (Below.refl _ _)
      obtain ⟨hB2, hC2⟩ := (hB.below hd2).setX J (by omega) (V : Int)
      rw [upd_len] at hB2 hC2
      rw [hL] at hB2 hC2 p0
      rw [hV] at *
      have Hfin := Lib.hid (And.intro hB2 (And.intro (hC.trans ((CStep.of_below hd2).trans hC2)) hP))
      clear hB hC hP hB2 hC2 hcell hfz hd2 hqc hdrop
      go_wp2_with fail
      go_still_tail 14, (by kernel_rfl)
      change wpList _ _ _ _ _ wr.drew
      go_wp2_with fail
      go_roundw
      case rel =>
        obtain ⟨g1, g2, g3⟩ := Hfin.out
        exact ⟨i + 1, _, by omega, rfl, (upd_len _ _ _).trans hL, g1, g2, g3⟩
      case measure => simp [intOf]; omega
    · have hlti : ¬ (i : Int) < (n : Int) := by omega
      obtain rfl : n = i := by omega
      rw [← hn, List.drop_length, patch] at hP
      subst hP
      have Hfin := Lib.hid (And.intro hB hC)
      clear hB hC hlt hi hL
      go_wp2_with fail
      go_end0
      refine ⟨rfl, ?_, Hfin.out.2.low Hh.out.bld⟩
      rw [Hst.out]
      exact ⟨_, _, _, _, (Hh.out.step Hfin.out.2 Hfin.out.1).drop, by omega⟩
end Go.Proofs.Ytjjhkagpoicimaa
