/- FilesCuts, walked. -/
import Derived.Test.YtnognicabhgmcaaDoorFiWg
namespace Go.Proofs.YtnognicabhgmcaaDoor
open Go Go.RowKit

theorem join_app_len : ∀ (a b : List (List UInt8)), (fJoin a).length ≤ (fJoin (a ++ b)).length
  | [], _ => Nat.zero_le _
  | [x], [] => Nat.le_refl _
  | [x], y :: b => by show x.length ≤ (x ++ 10 :: fJoin (y :: b)).length; simp
  | x :: y :: a, b => by
    show (x ++ 10 :: fJoin (y :: a)).length ≤ (x ++ 10 :: fJoin (y :: (a ++ b))).length
    have := join_app_len (y :: a) b
    simp only [List.length_append, List.length_cons, List.cons_append] at this ⊢
    omega
theorem join_mem_len : ∀ {l : List (List UInt8)} {x : List UInt8}, x ∈ l → x.length ≤ (fJoin l).length
  | [y], x, h => by simp at h; subst h; exact Nat.le_refl _
  | y :: z :: l, x, h => by
    show x.length ≤ (y ++ 10 :: fJoin (z :: l)).length
    rw [List.length_append, List.length_cons]
    rcases List.mem_cons.1 h with rfl | h
    · omega
    · have := join_mem_len h; omega
theorem neq_str (w : World) (x : ByteArray) : (binOp BinOp.neq 9 (.string x) (.string x)).run Tryd.prog w = .ok (.bool false) w := by
  simp [go_sem]
/-- Lines in a block, from its head on. -/
structure LnAt (w : World) (g : Nat) (R : List (List UInt8)) : Prop where
  lt : g < w.heap.size
  cell : ∀ j (h : j < R.length), w.cell? ⟨g, j, none⟩ = some (.string (txt R[j]))
theorem LnAt.below {w w' : World} {g : Nat} {R : List (List UInt8)} (h : LnAt w g R) (hb : Below w.heap.size w w') : LnAt w' g R :=
  ⟨Nat.lt_of_lt_of_le h.lt hb.size, fun j hj => (hb.cell (p := ⟨g, j, none⟩) h.lt).trans (h.cell j hj)⟩
theorem ln_at {w w' : World} {R : List (List UInt8)} {v : Value} {n : Nat} (h : LnNew w R v w') (hn : R.length = n) (h0 : 0 < n) : ∃ g c, v = .slice (some ⟨g, 0, none⟩) n c ∧ LnAt w' g R ∧ Below w.heap.size w w' := by
  obtain ⟨a, c, hv, _, _, hc⟩ := fi_row_cells h.1
  obtain ⟨g, rfl, hg, h2⟩ := hc (by omega)
  exact ⟨g, c, by rw [hv, hn], ⟨hg, fun j hj => h2 j _ (lnC_get R j hj)⟩, h.2⟩
theorem join_take (R : List (List UInt8)) (j : Nat) (h : j < R.length) : fJoin (R.take (j + 1)) = (if j = 0 then fJoin (R.take j) else fJoin (R.take j) ++ [10]) ++ R[j] := by
  rw [show R.take (j + 1) = R.take j ++ [R[j]] by simp]
  by_cases h0 : j = 0
  · subst h0; rfl
  · rw [if_neg h0, join_snoc _ _ (fun e => h0 (by have := congrArg List.length e; simp only [List.length_take, List.length_nil] at this; omega))]
    simp
set_option linter.unusedVariables false in
set_option linter.unusedSimpArgs false in
set_option maxRecDepth 100000 in
set_option maxHeartbeats 4000000 in
theorem filescuts_any (s : ByteArray) (w : World) (hG : GM w) : Calls Tryd.prog 4 #[.string s] w fun e w' => e = .returned (.bool true) ∧ Below w.heap.size w w' := by
  have hA := fun W (h : Below w.heap.size w W) => awake17_any W (hG.up h)
  have HA := Lib.hid hA
  have HG := Lib.hid hG
  have HB := Lib.hid (Below.refl w.heap.size w)
  clear hA hG
  by_cases h300 : s.size ≤ 300
  · have q1 : ¬ (300 : Int) < (s.size : Int) := by omega
    have q2 : decide ((300 : Int) < (s.size : Int)) = false := decide_eq_false q1
    go_enter Tryd.func4, Tryd.ntmps4
    go_upto_region 3 with (go_at_call 6; with_reducible refine (HA.out _ HB.out).mono ?_; rintro e w1 ⟨rfl, b1⟩)
    have B1 := Lib.hid b1
    have hC := ficut_any s w1 (by omega) (HG.out.up b1)
    have hD := fun W (h : Below w1.heap.size w1 W) => rfcut_any s W (by omega)
    have HD := Lib.hid hD
    have hback := cut_back s.data.toList
    have hlen := cut_len s.data.toList
    have hne := cut_ne s.data.toList
    rw [fi_size] at hlen
    obtain ⟨R, hR⟩ : ∃ R, fCut s.data.toList = R := ⟨_, rfl⟩
    rw [hR] at hC HD hback hlen hne
    obtain ⟨n, hn⟩ : ∃ n, R.length = n := ⟨_, rfl⟩
    have h0n : 0 < n := by rw [← hn]; exact List.length_pos_iff.2 hne
    rw [hn] at hlen
    have HR := Lib.hid hn
    have HK := Lib.hid hback
    clear b1 hback hne hn hD hR
    go_upto_region 4 with (first
      | (go_at_call 21; refine hC.mono ?_; clear hC; rintro e w2 ⟨v2, rfl, h2⟩; obtain ⟨g2, c2, rfl, k2⟩ := ln_at h2 HR.out h0n; have H2 := Lib.hid k2; clear h2 k2)
      | (go_at_call 22; refine (HD.out _ H2.out.2).mono ?_; rintro e w3 ⟨v3, rfl, h3⟩; obtain ⟨g3, c3, rfl, k3⟩ := ln_at h3 HR.out h0n; have H3 := Lib.hid k3; clear h3 k3))
    have H4 := Lib.hid (show LnAt w3 g2 R ∧ LnAt w3 g3 R ∧ Below w.heap.size w w3 from ⟨H2.out.1.below H3.out.2, H3.out.1, B1.out.trans ((H2.out.2.mono B1.out.size).trans (H3.out.2.mono (Nat.le_trans B1.out.size H2.out.2.size)))⟩)
    clear H2 H3
    have n0 : ((n : Int) == 0) = false := beq_eq_false_iff_ne.2 (by omega)
    have n1 : ((n : Int) != (n : Int)) = false := by simp
    go_upto_region 7 with fail
    go_wp2_with fail
    go_loopw [5, 31] (fun sv i wr => ∃ (j : Nat), j ≤ n ∧ i = .int .i64 j ∧ sv = .string (txt (fJoin (R.take j))) ∧ Below w3.heap.size w3 wr) (fun _ i _ => n - (intOf i).toNat)
    case atStart => exact ⟨0, by omega, rfl, rfl, Below.refl _ _⟩
    case round =>
      obtain ⟨j, hj, rfl, rfl, hb⟩ := hrel
      have HW := Lib.hid hb
      clear hb
      by_cases hlt : j < n
      · have hjl : j < R.length := by rw [HR.out]; exact hlt
        have r2 := (H4.out.1.below HW.out).cell j hjl
        have r3 := (H4.out.2.1.below HW.out).cell j hjl
        have hx := join_mem_len (List.getElem_mem hjl)
        have hy := join_app_len (R.take j) (R.drop j)
        rw [List.take_append_drop, HK.out, fi_size] at hy
        rw [HK.out, fi_size] at hx
        have HT := Lib.hid (join_take R j hjl)
        generalize R[j] = x at r2 r3 hx HT
        generalize fJoin (R.take j) = y at hy HT ⊢
        have hji : (j : Int) < (n : Int) := by omega
        have hj0 : (0 : Int) ≤ (j : Int) := by omega
        have Wj : IntKind.i64.wrap ((j : Int) + 1) = (j : Int) + 1 := IntWalk.i64_in _ (by omega)
        have hne := neq_str
        have z1 : (txt x).size ≤ 300 := by rw [txt_size]; omega
        have z2 : (txt y).size ≤ 300 := by rw [txt_size]; omega
        have z3 : (txt y ++ ⟨#[10]⟩).size ≤ 301 := by rw [ByteArray.size_append]; show (txt y).size + 1 ≤ 301; omega
        by_cases hz : j = 0
        · subst hz
          go_upto_region 10 with fail
          go_quiet (fail)
          have HD2 := Lib.hid (below_drewN HW.out nq)
          have d2 : (wr.drewN nq).cell? ⟨g2, 0, none⟩ = _ := r2
          have d3 : (wr.drewN nq).cell? ⟨g3, 0, none⟩ = _ := r3
          generalize wr.drewN nq = wd at HD2 d2 d3 ⊢
          go_wp2_with fail
          go_roundw
          case rel => exact ⟨1, by omega, by go_num, by rw [HT.out, if_pos rfl, txt_append], HD2.out⟩
          case measure => simp [intOf]; omega
        · have jp : (0 : Int) < (j : Int) := by omega
          go_upto_region 10 with fail
          go_quiet (fail)
          have HD2 := Lib.hid (below_drewN HW.out nq)
          have d2 : (wr.drewN nq).cell? ⟨g2, j, none⟩ = _ := r2
          have d3 : (wr.drewN nq).cell? ⟨g3, j, none⟩ = _ := r3
          generalize wr.drewN nq = wd at HD2 d2 d3 ⊢
          go_wp2_with fail
          go_roundw
          case rel => exact ⟨j + 1, by omega, by go_num, by rw [HT.out, if_neg hz, ← txt_append, ← txt_append]; rfl, HD2.out⟩
          case measure => simp [intOf]; omega
      · obtain rfl : n = j := by omega
        have HZ := Lib.hid (show txt (fJoin (R.take n)) = s by rw [← HR.out, List.take_length, HK.out, txt_of])
        generalize txt (fJoin (R.take n)) = z at HZ ⊢
        have HZ2 := HZ.out
        subst HZ2
        go_wp2_with fail
        go_ret
        exact ⟨by simp, H4.out.2.2.trans (HW.out.mono H4.out.2.2.size)⟩
  · have q1 : (300 : Int) < (s.size : Int) := by omega
    have q2 : decide ((300 : Int) < (s.size : Int)) = true := decide_eq_true q1
    go_enter Tryd.func4, Tryd.ntmps4
    go_wp2_with (go_at_call 6; with_reducible refine (HA.out _ HB.out).mono ?_; rintro e w1 ⟨rfl, b1⟩; have HB := Lib.hid (HB.out.trans (b1.mono HB.out.size)); clear b1)
    go_ret
    exact ⟨rfl, HB.out⟩
end Go.Proofs.YtnognicabhgmcaaDoor
