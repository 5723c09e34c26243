/- The proof's texts ClU, ClV, ClW: what the claim reaches of them. -/
import Derived.Test.YtihfenkphhnbcaaCp25
namespace Go.Proofs.Ytihfenkphhnbcaa
open Go Go.RowKit
def RowR (w : World) (a : Option Addr) (c : Nat) (l : List Inn) : Prop :=
  0 < l.length → ∃ q, a = some ⟨q, 0, none⟩ ∧ q < w.heap.size ∧ l.length ≤ c ∧ c ≤ maxLen ∧ ∀ j (hj : j < l.length) i, i < 7 → w.cell? ⟨q, j * 7 + i, none⟩ = (inC l[j])[i]?
theorem RowR.below {w w' : World} {a : Option Addr} {c : Nat} {l : List Inn} (h : RowR w a c l) (hb : Below w.heap.size w w') : RowR w' a c l := fun h0 => by
  obtain ⟨q, h1, h2, h3, h4, h5⟩ := h h0
  exact ⟨q, h1, Nat.lt_of_lt_of_le h2 hb.size, h3, h4, fun j hj i hi => (hb.cell (p := ⟨q, j * 7 + i, none⟩) h2).trans (h5 j hj i hi)⟩
theorem rowr_own {B : Nat} {w : World} {T : TypeId} {a : Option Addr} {c : Nat} {l : List Inn} (h : w.ownsRow B T 7 (.slice a l.length c) l.length (inF l)) : RowR w a c l := fun h0 => by
  obtain ⟨h1, h2⟩ := h
  rcases h2 with ⟨_, h3⟩ | ⟨q, cap, cur, e, hB, hh, hn, hcap, hcs, htk⟩
  · omega
  · injection e with e1 _ e2
    subst e1 e2
    refine ⟨q, rfl, (Array.getElem?_eq_some_iff.1 hh).1, hn, hcap, fun j hj i hi => ?_⟩
    have hlt : j * 7 + i < l.length * 7 := by omega
    have h4 : w.cell? ⟨q, j * 7 + i, none⟩ = cur[j * 7 + i]? := by simp [World.cell?, hh]
    rw [h4, ← inF_take l j hj i hi, ← htk, List.getElem?_take_of_lt hlt, Array.getElem?_toList]
set_option linter.unusedVariables false in
set_option linter.unusedSimpArgs false in
set_option maxRecDepth 100000 in
set_option maxHeartbeats 4000000 in
theorem is7_any (l : List Inn) (ia ja : Option Addr) (ic jc : Nat) (g k : Int) (bk : Bool) (w : World) (hi : RowR w ia ic l) (hj : RowR w ja jc l) (hl : l.length ≤ 3000) :
    Calls Try.prog 12 #[PrV (.slice ia l.length ic) g k bk, PrV (.slice ja l.length jc) g k bk] w fun e w' => e = .returned (.bool true) ∧ Below w.heap.size w w' := by
  obtain ⟨n, hn⟩ : ∃ n, l.length = n := ⟨_, rfl⟩
  rw [hn] at hl ⊢
  have hsz1 := World.size_alloc w (.cells #[.slice ia n ic, .int .i64 g, .int .i64 k, .bool bk] 32)
  have hP := Blk.new w #[.slice ia n ic, .int .i64 g, .int .i64 k, .bool bk] 32 _ rfl
  have hb1 := (Below.refl w.heap.size w).alloc (Nat.le_refl _) (.cells #[.slice ia n ic, .int .i64 g, .int .i64 k, .bool bk] 32)
  obtain ⟨W1, hW1⟩ : ∃ W1, w.alloc (.cells #[.slice ia n ic, .int .i64 g, .int .i64 k, .bool bk] 32) = W1 := ⟨_, rfl⟩
  rw [hW1] at hsz1 hP hb1
  have hsz2 := World.size_alloc W1 (.cells #[.slice ja n jc, .int .i64 g, .int .i64 k, .bool bk] 41)
  have hQ := Blk.new W1 #[.slice ja n jc, .int .i64 g, .int .i64 k, .bool bk] 41 _ rfl
  have hb2 := hb1.alloc hb1.size (.cells #[.slice ja n jc, .int .i64 g, .int .i64 k, .bool bk] 41)
  replace hP := hP.alloc (.cells #[.slice ja n jc, .int .i64 g, .int .i64 k, .bool bk] 41)
  obtain ⟨p, hp⟩ : ∃ p, W1.heap.size = p := ⟨_, rfl⟩
  obtain ⟨W2, hW2⟩ : ∃ W2, W1.alloc (.cells #[.slice ja n jc, .int .i64 g, .int .i64 k, .bool bk] 41) = W2 := ⟨_, rfl⟩
  rw [hW2] at hsz2 hQ hb2 hP
  rw [hp] at hQ
  obtain ⟨p0, p1, p2, p3, _, _, _, _, hpl⟩ := blk4 hP
  obtain ⟨q0, q1, q2, q3, _, _, _, _, hql⟩ := blk4 hQ
  have hgg : (g != g) = false := by simp
  have hkk : (k != k) = false := by simp
  have hbb : (bk != bk) = false := by simp
  have hnn : ((n : Int) != (n : Int)) = false := by simp
  have hi := Lib.hid hi
  have hj := Lib.hid hj
  have Hb2 := Lib.hid hb2
  have Hn := Lib.hid hn
  have Hsz := Lib.hid (show W2.heap.size = p + 1 by omega)
  have Hlt := Lib.hid (And.intro hpl (And.intro hql (show w.heap.size < p by omega)))
  have HP := Lib.hid hP
  have HQ := Lib.hid hQ
  clear hn hP hQ hb1 hb2 hsz1 hsz2 hpl hql
  go_enter Try.func12, Try.ntmps12
  go_wp2_with fail
  go_loopw [39] (fun i wr => ∃ (j : Nat), j ≤ n ∧ i = .int .i64 j ∧ Below W2.heap.size W2 wr) (fun i _ => n - (intOf i).toNat)
  case atStart => exact ⟨0, by omega, rfl, Below.refl _ _⟩
  case round =>
    obtain ⟨j, hjn, rfl, hb⟩ := hrel
    have Hb := Lib.hid hb
    obtain ⟨q0, q1, q2, q3, _, _, _, _, hql⟩ := blk4 (HQ.out.below hb HQ.out.lt)
    clear hb
    by_cases hlt : j < n
    · have hjl : j < l.length := by rw [Hn.out]; exact hlt
      obtain ⟨qi, e1, hqi, hic, him, hci⟩ := (hi.out.below (Hb2.out.trans (Hb.out.mono Hb2.out.size))) (by omega)
      obtain ⟨qj, e2, hqj, hjc, hjm, hcj⟩ := (hj.out.below (Hb2.out.trans (Hb.out.mono Hb2.out.size))) (by omega)
      subst e1 e2
      replace hci := hci j hjl
      replace hcj := hcj j hjl
      rw [Hn.out] at hic hjc
      have hji : (j : Int) < (n : Int) := by omega
      have Wj : IntKind.i64.wrap ((j : Int) + 1) = (j : Int) + 1 := IntWalk.i64_in _ (by omega)
      generalize l[j] = x at hci hcj
      obtain ⟨op, st, X, Y⟩ := x
      have x0 : wr.cell? ⟨qi, j * 7, none⟩ = some (.int .i64 op) := hci 0 (by omega)
      have x1 : wr.cell? ⟨qi, j * 7 + 1, none⟩ = some (.int .u64 (ow st 0)) := hci 1 (by omega)
      have x2 : wr.cell? ⟨qi, j * 7 + 2, none⟩ = some (.int .u64 (ow st 1)) := hci 2 (by omega)
      have x3 : wr.cell? ⟨qi, j * 7 + 3, none⟩ = some (.int .u64 (ow st 2)) := hci 3 (by omega)
      have x4 : wr.cell? ⟨qi, j * 7 + 4, none⟩ = some (.int .u64 (ow st 3)) := hci 4 (by omega)
      have x5 : wr.cell? ⟨qi, j * 7 + 5, none⟩ = some (.int .i64 X) := hci 5 (by omega)
      have x6 : wr.cell? ⟨qi, j * 7 + 6, none⟩ = some (.int .i64 Y) := hci 6 (by omega)
      have hal := (Below.refl wr.heap.size wr).alloc (Nat.le_refl _) (.cells #[.int .i64 op, .int .u64 (ow st 0), .int .u64 (ow st 1), .int .u64 (ow st 2), .int .u64 (ow st 3), .int .i64 X, .int .i64 Y] 49)
      have y0 := (hal.cell (p := ⟨qj, j * 7, none⟩) hqj).trans (show wr.cell? ⟨qj, j * 7, none⟩ = some (.int .i64 op) from hcj 0 (by omega))
      have y1 := (hal.cell (p := ⟨qj, j * 7 + 1, none⟩) hqj).trans (show wr.cell? ⟨qj, j * 7 + 1, none⟩ = some (.int .u64 (ow st 0)) from hcj 1 (by omega))
      have y2 := (hal.cell (p := ⟨qj, j * 7 + 2, none⟩) hqj).trans (show wr.cell? ⟨qj, j * 7 + 2, none⟩ = some (.int .u64 (ow st 1)) from hcj 2 (by omega))
      have y3 := (hal.cell (p := ⟨qj, j * 7 + 3, none⟩) hqj).trans (show wr.cell? ⟨qj, j * 7 + 3, none⟩ = some (.int .u64 (ow st 2)) from hcj 3 (by omega))
      have y4 := (hal.cell (p := ⟨qj, j * 7 + 4, none⟩) hqj).trans (show wr.cell? ⟨qj, j * 7 + 4, none⟩ = some (.int .u64 (ow st 3)) from hcj 4 (by omega))
      have y5 := (hal.cell (p := ⟨qj, j * 7 + 5, none⟩) hqj).trans (show wr.cell? ⟨qj, j * 7 + 5, none⟩ = some (.int .i64 X) from hcj 5 (by omega))
      have y6 := (hal.cell (p := ⟨qj, j * 7 + 6, none⟩) hqj).trans (show wr.cell? ⟨qj, j * 7 + 6, none⟩ = some (.int .i64 Y) from hcj 6 (by omega))
      have r0 := (hal.cell (p := ⟨p, 0, none⟩) hql).trans q0
      have hq := fun w => (oset_eql st st w).trans (by rw [decide_eq_true rfl])
      have hoo : (op != op) = false := by simp
      have hXX : (X != X) = false := by simp
      have hYY : (Y != Y) = false := by simp
      have hqi' := hqi
      have hqj' := hqj
      have hs3 := World.size_alloc wr (.cells #[.int .i64 op, .int .u64 (ow st 0), .int .u64 (ow st 1), .int .u64 (ow st 2), .int .u64 (ow st 3), .int .i64 X, .int .i64 Y] 49)
      have hX := Blk.new wr #[.int .i64 op, .int .u64 (ow st 0), .int .u64 (ow st 1), .int .u64 (ow st 2), .int .u64 (ow st 3), .int .i64 X, .int .i64 Y] 49 _ rfl
      have hb3 := Hb.out.alloc Hb.out.size (.cells #[.int .i64 op, .int .u64 (ow st 0), .int .u64 (ow st 1), .int .u64 (ow st 2), .int .u64 (ow st 3), .int .i64 X, .int .i64 Y] 49)
      have Hq3 := Lib.hid (And.intro q1 (And.intro q2 q3))
      clear hci hcj hal hjl q0 q1 q2 q3
      go_upto_region 6 with fail
      generalize wr.alloc (.cells #[.int .i64 op, .int .u64 (ow st 0), .int .u64 (ow st 1), .int .u64 (ow st 2), .int .u64 (ow st 3), .int .i64 X, .int .i64 Y] 49) = W3 at *
      have hX4 := hX.alloc (.cells #[.int .i64 op, .int .u64 (ow st 0), .int .u64 (ow st 1), .int .u64 (ow st 2), .int .u64 (ow st 3), .int .i64 X, .int .i64 Y] 84)
      have hY4 := Blk.new W3 #[.int .i64 op, .int .u64 (ow st 0), .int .u64 (ow st 1), .int .u64 (ow st 2), .int .u64 (ow st 3), .int .i64 X, .int .i64 Y] 84 _ rfl
      have hb4 := hb3.alloc hb3.size (.cells #[.int .i64 op, .int .u64 (ow st 0), .int .u64 (ow st 1), .int .u64 (ow st 2), .int .u64 (ow st 3), .int .i64 X, .int .i64 Y] 84)
      have hs4 := World.size_alloc W3 (.cells #[.int .i64 op, .int .u64 (ow st 0), .int .u64 (ow st 1), .int .u64 (ow st 2), .int .u64 (ow st 3), .int .i64 X, .int .i64 Y] 84)
      obtain ⟨W4, hW4⟩ : ∃ W4, W3.alloc (.cells #[.int .i64 op, .int .u64 (ow st 0), .int .u64 (ow st 1), .int .u64 (ow st 2), .int .u64 (ow st 3), .int .i64 X, .int .i64 Y] 84) = W4 := ⟨_, rfl⟩
      rw [hW4] at hX4 hY4 hb4 hs4
      have a0 := (hX4.cell 0).trans rfl
      have a1 := (hX4.cell 1).trans rfl
      have a2 := (hX4.cell 2).trans rfl
      have a3 := (hX4.cell 3).trans rfl
      have a4 := (hX4.cell 4).trans rfl
      have a5 := (hX4.cell 5).trans rfl
      have a6 := (hX4.cell 6).trans rfl
      have c0 := (hY4.cell 0).trans rfl
      have c1 := (hY4.cell 1).trans rfl
      have c2 := (hY4.cell 2).trans rfl
      have c3 := (hY4.cell 3).trans rfl
      have c4 := (hY4.cell 4).trans rfl
      have c5 := (hY4.cell 5).trans rfl
      have c6 := (hY4.cell 6).trans rfl
      have HF := Lib.hid hb4
      have hX4l := hX4.lt
      have hY4l := hY4.lt
      clear hX hb3 hs3 hX4 hY4 hb4 hs4
      go_wp2_with fail
      go_roundw
      case rel => exact ⟨j + 1, by omega, by go_num, HF.out⟩
      case measure => simp [intOf]; omega
    · obtain rfl : n = j := by omega
      have HF := Lib.hid (Hb2.out.trans (Hb.out.mono Hb2.out.size))
      go_wp2_with fail
      go_ret
      exact ⟨rfl, HF.out⟩
end Go.Proofs.Ytihfenkphhnbcaa
namespace Go.Proofs.Ytihfenkphhnbcaa
open Go Go.RowKit
theorem rowr_news {w : World} {q c : Nat} {l : List Inn} (h : RowR w (some ⟨q, 0, none⟩) c l) : ∀ j u, (inF l)[j]? = some u → w.cell? ((⟨q, 0, none⟩ : Addr).add j) = some u := by
  intro j u hu
  have hjl : j < (inF l).length := (List.getElem?_eq_some_iff.1 hu).1
  rw [inF_len] at hjl
  obtain ⟨q', e, _, _, _, hc⟩ := h (by omega)
  injection e with e
  injection e with e1
  subst e1
  have hd : j / 7 * 7 + j % 7 = j := by omega
  have h7 : j % 7 < 7 := Nat.mod_lt _ (by decide)
  have hj7 : j / 7 < l.length := by omega
  have := hc (j / 7) hj7 (j % 7) h7
  rw [hd, ← inF_take l (j / 7) hj7 (j % 7) h7, hd] at this
  rw [Go.WideShapes.add_plain, Nat.zero_add, this, hu]
theorem inF_one (l : List Inn) : ∀ u ∈ inF l, u.oneCell' = true := fun u hu => by
  unfold inF at hu
  obtain ⟨i, _, h⟩ := List.mem_flatMap.1 hu
  exact inC_one i u h
theorem cinst_info : ∃ i, Try.prog.info? 49 = some i ∧ i.zero = some (.agg #[.int .i64 0, .int .u64 0, .int .u64 0, .int .u64 0, .int .u64 0, .int .i64 0, .int .i64 0]) ∧ i.size = 7 ∧ i.bytes = 56 := by
  have h : (Try.prog.info? 49).map (fun i => (i.zero, i.size, i.bytes)) = some (some (.agg #[.int .i64 0, .int .u64 0, .int .u64 0, .int .u64 0, .int .u64 0, .int .i64 0, .int .i64 0]), 7, 56) := by kernel_rfl
  obtain ⟨i, hi, he⟩ := Option.map_eq_some_iff.1 h
  injection he with h1 h2
  injection h2 with h2 h3
  exact ⟨i, hi, h1, h2, h3⟩
set_option linter.unusedVariables false in
set_option linter.unusedSimpArgs false in
set_option maxRecDepth 100000 in
set_option maxHeartbeats 4000000 in
theorem clone_any (l : List Inn) (ia : Option Addr) (ic : Nat) (w : World) (hi : RowR w ia ic l) (h0 : l.length = 0 → ia = none ∧ ic = 0) (hl : l.length ≤ 3000) :
    Calls Try.prog 29 #[.slice ia l.length ic] w fun e w' => Below w.heap.size w w' ∧ ∃ a' c', e = .returned (.slice a' l.length c') ∧ w'.ownsRow w.heap.size 49 7 (.slice a' l.length c') l.length (inF l) ∧ (l.length = 0 → a' = none ∧ c' = 0) := by
  by_cases hz : l.length = 0
  · obtain ⟨rfl, rfl⟩ := h0 hz
    have hn : l = [] := List.eq_nil_of_length_eq_zero hz
    subst hn
    rw [List.length_nil]
    clear hi h0 hl hz
    have hnil : ∀ w : World, (binOp BinOp.eql 30 (.slice none 0 0) (.slice none 0 0)).run Try.prog w = .ok (.bool true) w := fun w => Lib.run_eql_slice_nil w _ _ none 0 0 0 0 Try.underlying30
    go_enter Try.func29, Try.ntmps29
    go_wp2_with fail
    go_ret
    exact ⟨Below.refl _ w, none, 0, rfl, World.ownsRow_nil _ _ _ _, fun _ => ⟨rfl, rfl⟩⟩
  · obtain ⟨q, rfl, hq, hic, him, _⟩ := hi (by omega)
    obtain ⟨i0, hi0, hz0, hz1, hz2⟩ := cinst_info
    have hn0 := rowr_news hi
    have hal := (Below.refl w.heap.size w).alloc (Nat.le_refl _) (.cells #[] 49)
    have hnews := rowr_news (hi.below hal)
    have hrow := World.ownsRow_lit (base := w.heap.size) (size := 7) (e := 49) w #[] 0 (Nat.le_refl _) (by decide) rfl
    obtain ⟨n, hn⟩ := (⟨_, rfl⟩ : ∃ n, l.length = n)
    have hlen : (inF l).length = n * 7 := by rw [inF_len, hn]
    have hm1 : 0 + n ≤ maxLen := by unfold maxLen; omega
    have hm2 : (0 + n) * 56 ≤ 140737488355328 := by omega
    have hw1 : w.heap.size ≤ (w.alloc (.cells #[] 49)).heap.size := hal.size
    rw [hn] at hic ⊢
    have hnz : n ≠ 0 := by omega
    have Hnz := Lib.hid hnz
    have Hal := Lib.hid hal
    have Hnews := Lib.hid hnews
    have Hrow := Lib.hid hrow
    clear hi h0 hl hz hn hn0 hnews hrow hal hnz
    have hnil : ∀ w : World, (binOp BinOp.eql 30 (.slice (some ⟨q, 0, none⟩) n ic) (.slice none 0 0)).run Try.prog w = .ok (.bool false) w := fun w => Lib.run_eql_slice_nil w _ _ (some ⟨q, 0, none⟩) n ic 0 0 Try.underlying30
    go_enter Try.func29, Try.ntmps29
    go_wp2_with (at_builtin; go_loud (refine wpList_append_own_at _ rfl _ _ 30 rfl w.heap.size 49 i0 (.agg #[.int .i64 0, .int .u64 0, .int .u64 0, .int .u64 0, .int .u64 0, .int .i64 0, .int .i64 0]) 7 56 Try.underlying30 hi0 hz0 hz1 hz2 rfl (by decide) (.slice (some ⟨w.heap.size, 0, none⟩) 0 0) 0 [] rfl Hrow.out ⟨q, 0, none⟩ n ic (inF l) rfl hlen Hnews.out (inF_one l) hm1 hm2 hw1 ?_; intro v6 w6 hown6 hgr6 _ hat6))
    have HF := Lib.hid (show Below w.heap.size w w6 ∧ ∃ a' c', Ending.returned v6 = .returned (.slice a' n c') ∧ w6.ownsRow w.heap.size 49 7 (.slice a' n c') n (inF l) ∧ (n = 0 → a' = none ∧ c' = 0) from by
      rw [Nat.zero_add, List.nil_append] at hown6
      obtain ⟨a6, c6, rfl⟩ := co_form hown6
      exact ⟨Hal.out.grown hgr6 hw1 (fun b hb => by have : some w.heap.size = some b := hb; injection this with this; omega), a6, c6, rfl, hown6, fun h => absurd h Hnz.out⟩)
    clear hown6 hgr6 hat6
    go_wp2_with fail
    go_ret
    exact HF.out
set_option linter.unusedVariables false in
set_option linter.unusedSimpArgs false in
set_option maxRecDepth 100000 in
set_option maxHeartbeats 4000000 in
theorem ccopy_any (l : List Inn) (ia : Option Addr) (ic : Nat) (g k : Int) (bk : Bool) (w : World) (hi : RowR w ia ic l) (h0 : l.length = 0 → ia = none ∧ ic = 0) (hl : l.length ≤ 3000) :
    Calls Try.prog 13 #[PrV (.slice ia l.length ic) g k bk] w fun e w' => Below w.heap.size w w' ∧ ∃ a' c', e = .returned (PrV (.slice a' l.length c') g k bk) ∧ w'.ownsRow w.heap.size 49 7 (.slice a' l.length c') l.length (inF l) ∧ (l.length = 0 → a' = none ∧ c' = 0) := by
  obtain ⟨V, hV⟩ : ∃ V, Value.slice ia l.length ic = V := ⟨_, rfl⟩
  have hP := Blk.new w #[V, .int .i64 g, .int .i64 k, .bool bk] 32 _ rfl
  have hb1 := (Below.refl w.heap.size w).alloc (Nat.le_refl _) (.cells #[V, .int .i64 g, .int .i64 k, .bool bk] 32)
  have hs1 := World.size_alloc w (.cells #[V, .int .i64 g, .int .i64 k, .bool bk] 32)
  obtain ⟨W1, hW1⟩ : ∃ W1, w.alloc (.cells #[V, .int .i64 g, .int .i64 k, .bool bk] 32) = W1 := ⟨_, rfl⟩
  rw [hW1] at hP hb1 hs1
  obtain ⟨p, hp⟩ : ∃ p, W1.heap.size = p := ⟨_, rfl⟩
  have hR := Blk.new W1 #[nilS, .int .i64 0, .int .i64 0, .bool false] 32 p hp.symm
  have hb2 := hb1.alloc hb1.size (.cells #[nilS, .int .i64 0, .int .i64 0, .bool false] 32)
  replace hP := hP.alloc (.cells #[nilS, .int .i64 0, .int .i64 0, .bool false] 32)
  obtain ⟨W2, hW2⟩ : ∃ W2, W1.alloc (.cells #[nilS, .int .i64 0, .int .i64 0, .bool false] 32) = W2 := ⟨_, rfl⟩
  rw [hW2] at hP hb2 hR
  have hC := clone_any l ia ic W2 (hi.below hb2) h0 hl
  obtain ⟨n, hn⟩ : ∃ n, l.length = n := ⟨_, rfl⟩
  rw [hn] at hV ⊢
  simp only [hn] at hC
  obtain ⟨p0, p1, p2, p3, f0, f1, f2, f3, hpl⟩ := blk4 hP
  have HP := Lib.hid hP
  have HR := Lib.hid hR
  have HB := Lib.hid hb2
  have Hps := Lib.hid (show p = w.heap.size + 1 by omega)
  clear hP hR hb1 hb2 hs1 hi h0 hl hn
  rw [hV] at hC ⊢
  clear hV
  go_enter Try.func13, Try.ntmps13
  go_upto_region 1 with fail
  go_upto_region 2 with (go_at_call 29; refine hC.mono ?_; clear hC; rintro e w3 ⟨b3, a3, c3, rfl, ho3, hz3⟩; have P3 := Lib.hid (HP.out.below b3 HP.out.lt); have R3 := Lib.hid (HR.out.below b3 HR.out.lt); have B3 := Lib.hid (HB.out.trans (b3.mono HB.out.size)); clear p0 p1 p2 p3 f0 f1 f2 f3 hpl; obtain ⟨p0, p1, p2, p3, f0, f1, f2, f3, hpl⟩ := blk4 P3.out)
  have o3 := own_of ho3
  have HO := Lib.hid (And.intro ho3 (And.intro hz3 o3))
  clear ho3 hz3 o3 b3 hpl
  have hk := P3.out.set 0 (.slice a3 n c3)
  have hb4 := B3.out.setCell (p := ⟨w.heap.size, 0, none⟩) (Nat.le_refl _) (.slice a3 n c3)
  have hs4 : ∀ b, b ≠ w.heap.size → (w3.setCell ⟨w.heap.size, 0, none⟩ (.slice a3 n c3)).heap[b]? = w3.heap[b]? := fun b hb => Below.heap_setCell _ _ _ _ (fun e => hb e)
  have hl4 : (w3.setCell ⟨w.heap.size, 0, none⟩ (.slice a3 n c3)).heap.size = w3.heap.size := by simp [World.setCell]
  have hR4 := blk_like R3.out (hs4 p (by have := Hps.out; omega))
  clear p0 p1 p2 p3 f0 f1 f2 f3
  generalize w3.setCell ⟨w.heap.size, 0, none⟩ (.slice a3 n c3) = w4 at *
  obtain ⟨p0, p1, p2, p3, f0, f1, f2, f3, hpl⟩ := blk4 hk
  obtain ⟨z0, z1, z2, z3, v0, v1, v2, v3, hz⟩ := blk4 hR4
  have HB4 := Lib.hid hb4
  have HR4 := Lib.hid hR4
  have HS4 := Lib.hid hs4
  clear hk hb4 hR4 hs4
  go_wp2_with fail
  with_reducible refine post4 HB4.out HR4.out (by have := Hps.out; omega) ?_
  intro w9 hB9 hk9 hs9 hz9
  clear z0 z1 z2 z3 v0 v1 v2 v3 hz
  obtain ⟨z0, z1, z2, z3, _⟩ := blk4 hk9
  refine bodyPost_ret (v := PrV (.slice a3 n c3) g k bk) (by simp [results, Try.results13, go_sem, z0, z1, z2, z3]) rfl ?_
  obtain ⟨ho3, hz3, o3⟩ := HO.out
  refine ⟨hB9, a3, c3, rfl, own_less HB.out.size (own_row_same ho3 fun b hb => ?_), hz3⟩
  have h1 := o3 b hb
  have h2 := HR.out.lt
  have h3 := Hps.out
  rw [hs9 b (by omega), HS4.out b (by omega)]
end Go.Proofs.Ytihfenkphhnbcaa
namespace Go.Proofs.Ytihfenkphhnbcaa
open Go Go.RowKit
def cres (d : Nd) : List Inn × Int × Int × Bool × Int :=
  if nrightB d = true then (if 3000 < csz d + 3 then ([], 0, 0, false, 3) else (prg d, (ngroups d : Int), (clp d : Int), nbacks d, 0)) else ([], 0, 0, false, 2)
theorem cres_len (d : Nd) : (cres d).1.length ≤ 3000 := by
  unfold cres
  split
  · split
    · simp
    · simp only [prg_len]; omega
  · simp
def CAns (T : TypeId) (w : World) (r : List Inn × Int × Int × Bool × Int) (e : Ending) (w' : World) : Prop :=
  Below w.heap.size w w' ∧ ∃ ia ic, e = .returned (.tuple #[PrV (.slice ia r.1.length ic) r.2.1 r.2.2.1 r.2.2.2.1, .int .i64 r.2.2.2.2]) ∧ w'.ownsRow w.heap.size T 7 (.slice ia r.1.length ic) r.1.length (inF r.1) ∧ (r.1.length = 0 → ia = none ∧ ic = 0)
theorem comp_res {T : TypeId} {w w' : World} {d : Nd} {e : Ending} (h : Below w.heap.size w w' ∧ ((nrightB d = false ∧ e = .returned (.tuple #[PrV nilS 0 0 false, .int .i64 2])) ∨
    (nrightB d = true ∧ 3000 < csz d + 3 ∧ e = .returned (.tuple #[PrV nilS 0 0 false, .int .i64 3])) ∨
    (nrightB d = true ∧ csz d + 3 ≤ 3000 ∧ ∃ iv, e = .returned (.tuple #[PrV iv (ngroups d : Int) (clp d : Int) (nbacks d), .int .i64 0]) ∧ w'.ownsRow w.heap.size T 7 iv (prg d).length (inF (prg d))))) : CAns T w (cres d) e w' := by
  obtain ⟨hb, h | h | ⟨h1, h2, iv, rfl, ho⟩⟩ := h
  · obtain ⟨h1, rfl⟩ := h
    refine ⟨hb, none, 0, ?_⟩
    unfold cres
    rw [if_neg (by rw [h1]; decide)]
    exact ⟨rfl, World.ownsRow_nil _ _ _ _, fun _ => ⟨rfl, rfl⟩⟩
  · obtain ⟨h1, h2, rfl⟩ := h
    refine ⟨hb, none, 0, ?_⟩
    unfold cres
    rw [if_pos h1, if_pos h2]
    exact ⟨rfl, World.ownsRow_nil _ _ _ _, fun _ => ⟨rfl, rfl⟩⟩
  · obtain ⟨ia, ic, rfl⟩ := co_form ho
    refine ⟨hb, ia, ic, ?_⟩
    unfold cres
    rw [if_pos h1, if_neg (by omega)]
    exact ⟨rfl, ho, fun h => absurd h (by simp only [prg_len]; omega)⟩
structure C7 (w W : World) (r s : Nat) (ia ja : Option Addr) (ic jc m : Nat) (l : List Inn) (g k : Int) (bk : Bool) : Prop where
  b : Below w.heap.size w W
  p : Blk W r #[.slice ia m ic, .int .i64 g, .int .i64 k, .bool bk] 32
  d : Blk W s #[.slice ja m jc, .int .i64 g, .int .i64 k, .bool bk] 41
  rp : W.ownsRow w.heap.size 49 7 (.slice ia m ic) m (inF l)
  rd : W.ownsRow (r + 1) 84 7 (.slice ja m jc) m (inF l)
theorem C7.step {w W W' : World} {r s : Nat} {ia ja : Option Addr} {ic jc m : Nat} {l : List Inn} {g k : Int} {bk : Bool} (h : C7 w W r s ia ja ic jc m l g k bk) (hb : Below W.heap.size W W') : C7 w W' r s ia ja ic jc m l g k bk :=
  ⟨h.b.trans (hb.mono h.b.size), h.p.below hb h.p.lt, h.d.below hb h.d.lt, nd_own_below h.rp hb, nd_own_below h.rd hb⟩
theorem rowr_own' {B : Nat} {w : World} {T : TypeId} {a : Option Addr} {c m : Nat} {l : List Inn} (hm : l.length = m) (h : w.ownsRow B T 7 (.slice a m c) m (inF l)) : RowR w a c l := by
  subst hm
  exact rowr_own h
theorem is7' {l : List Inn} {ia ja : Option Addr} {ic jc m : Nat} {g k : Int} {bk : Bool} {w : World} {B C : Nat} {T U : TypeId} (hm : l.length = m) (hi : w.ownsRow B T 7 (.slice ia m ic) m (inF l)) (hj : w.ownsRow C U 7 (.slice ja m jc) m (inF l)) (hl : m ≤ 3000) :
    Calls Try.prog 12 #[PrV (.slice ia m ic) g k bk, PrV (.slice ja m jc) g k bk] w fun e w' => e = .returned (.bool true) ∧ Below w.heap.size w w' := by
  subst hm
  exact is7_any l ia ja ic jc g k bk w (rowr_own hi) (rowr_own hj) hl
theorem ccopy' {l : List Inn} {ia : Option Addr} {ic m : Nat} {g k : Int} {bk : Bool} {w : World} {B : Nat} {T : TypeId} (hm : l.length = m) (hi : w.ownsRow B T 7 (.slice ia m ic) m (inF l)) (h0 : m = 0 → ia = none ∧ ic = 0) (hl : m ≤ 3000) :
    Calls Try.prog 13 #[PrV (.slice ia m ic) g k bk] w fun e w' => Below w.heap.size w w' ∧ ∃ a' c', e = .returned (PrV (.slice a' m c') g k bk) ∧ w'.ownsRow w.heap.size 49 7 (.slice a' m c') m (inF l) := by
  subst hm
  refine (ccopy_any l ia ic g k bk w (rowr_own hi) h0 hl).mono ?_
  rintro e w' ⟨h1, a', c', h2, h3, _⟩
  exact ⟨h1, a', c', h2, h3⟩
set_option linter.unusedVariables false in
set_option linter.unusedSimpArgs false in
set_option maxRecDepth 100000 in
set_option maxHeartbeats 4000000 in
theorem compiles7_all (n : Nat) (t : Tr) (a : Option Addr) (ca : Nat) (w : World) (ht : TrAt n w t a ca) (h1 : tall t ≤ 1048576) :
    Calls Try.prog 3 #[tV t a ca] w fun e w' => e = .returned (.bool true) ∧ Below w.heap.size w w' := by
  have hT := Blk.new w (tC t a ca) 27 _ rfl
  have hB := (Below.refl w.heap.size w).alloc (Nat.le_refl _) (.cells (tC t a ca) 27)
  have hF := fun (w' : World) (hb : Below w.heap.size w w') => lfew_any n t a ca 100 w' (TrAt.below hb _ _ _ _ ht) (by omega)
  obtain ⟨N, hN⟩ := trd7 ht
  have HN := Lib.hid hN
  clear ht hN
  obtain ⟨f1, hf1⟩ : ∃ f1, (decide (tall t ≤ 100) && tknown t) = f1 := ⟨_, rfl⟩
  rw [hf1] at hF
  have Hf1 := Lib.hid hf1
  clear hf1 h1
  unfold tV at hF ⊢
  go_enter Try.func3, Try.ntmps3
  go_wp2_with fail
  refine (awake7_any _).mono ?_
  rintro e w1 ⟨rfl, b1⟩
  replace hB := hB.trans (b1.mono hB.size)
  replace hT := hT.below b1 hT.lt
  have hc := blk9 hT
  clear b1
  cases f1
  · obtain ⟨c0, c1, c2, c3, c4, c5, c6, c7, c8⟩ := hc
    go_wp2_with (first | (go_at_call 8; refine (hF _ hB).mono ?_; clear hF; rintro e w2 ⟨rfl, b2⟩; replace hB := hB.trans (b2.mono hB.size)) | (go_at_call 7; refine (awake7_any _).mono ?_; rintro e w3 ⟨rfl, b3⟩))
    go_ret
    exact ⟨rfl, hB.trans (b3.mono hB.size)⟩
  · obtain ⟨hs1, hs2⟩ := few_small Hf1.out
    have hz := nsize_tall t
    have hRl := fun (w' : World) (hb : Below w.heap.size w w') => real7 (HN.out.below hb) (by omega)
    have hDc := fun (w' : World) (hb : Below w.heap.size w w') => (dcompile_any N t a ca w' (HN.out.below hb) hs2 (by omega)).mono fun e w2 h => comp_res (T := 84) (show _ ∧ _ from h)
    have hCp := fun (w' : World) (v : Value) (hd : NdX (fun k => k < w'.heap.size) w' (canon t) v) => (compile_any (canon t) v w' hd (by omega)).mono fun e w2 h => comp_res (T := 49) (show _ ∧ _ from h)
    have hl3 := cres_len (canon t)
    generalize cres (canon t) = R at hDc hCp hl3
    obtain ⟨l, g, k, bk, no⟩ := R
    simp only at hl3
    simp only [CAns] at hDc hCp
    obtain ⟨m, hm⟩ : ∃ m, l.length = m := ⟨_, rfl⟩
    rw [hm] at hl3
    simp only [hm] at hDc hCp
    unfold tV at hRl hDc
    have Hm := Lib.hid hm
    have HDc := Lib.hid hDc
    clear hs1 hs2 hz hm hDc
    obtain ⟨c0, c1, c2, c3, c4, c5, c6, c7, c8⟩ := hc
    go_upto_region 4 with (first
      | (go_at_call 8; refine (hF _ hB).mono ?_; clear hF; rintro e w2 ⟨rfl, b2⟩; replace hB := hB.trans (b2.mono hB.size); replace hT := hT.below b2 hT.lt; clear c0 c1 c2 c3 c4 c5 c6 c7 c8 b2; obtain ⟨c0, c1, c2, c3, c4, c5, c6, c7, c8⟩ := blk9 hT)
      | (go_at_call 10; refine (hRl _ hB).mono ?_; clear hRl; rintro e w6 ⟨T, v, rfl, hd6, b6⟩; replace hB := hB.trans (b6.mono hB.size); replace hT := hT.below b6 hT.lt; have hC6 := hCp w6 _ hd6; clear hCp hd6 b6)
      | (go_at_call 9; refine hC6.mono ?_; clear hC6; rintro e w7 ⟨b7, ia, ic, rfl, ho7, hz7⟩; have hB6 := hB; replace hB := hB.trans (b7.mono hB.size); replace hT := hT.below b7 hT.lt; clear b7))
    obtain ⟨r, hr⟩ : ∃ r, w7.heap.size = r := ⟨_, rfl⟩
    have hq7 : ∀ b, (Value.slice ia m ic).ownBlock = some b → w.heap.size ≤ b ∧ b < r := fun b hb => by
      have := co_own_lt ho7 b hb
      have := own_of ho7 b hb
      have := hB6.size
      omega
    have hal := (Below.refl w7.heap.size w7).alloc (Nat.le_refl _) (.cells #[.slice ia m ic, .int .i64 g, .int .i64 k, .bool bk] 32)
    have hP := Blk.new w7 #[.slice ia m ic, .int .i64 g, .int .i64 k, .bool bk] 32 r hr.symm
    have hs8 := World.size_alloc w7 (.cells #[.slice ia m ic, .int .i64 g, .int .i64 k, .bool bk] 32)
    generalize w7.alloc (.cells #[.slice ia m ic, .int .i64 g, .int .i64 k, .bool bk] 32) = W8 at *
    have hB8 := hB.trans (hal.mono hB.size)
    have hT8 := hT.below hal hT.lt
    have hrp := own_less hB6.size (nd_own_below ho7 hal)
    rw [hr]
    have Hs8 := Lib.hid (show W8.heap.size = r + 1 by omega)
    have Hq7 := Lib.hid hq7
    have Hrp := Lib.hid hrp
    have Hz7 := Lib.hid hz7
    have HP := Lib.hid hP
    have HB8 := Lib.hid hB8
    clear hq7 ho7 hal hs8 hB hT hB6 hrp hr hz7 hP hB8 c0 c1 c2 c3 c4 c5 c6 c7 c8
    obtain ⟨c0, c1, c2, c3, c4, c5, c6, c7, c8⟩ := blk9 hT8
    have hD := HDc.out W8 HB8.out
    clear hT8
    go_upto_region 5 with (go_at_call 11; refine hD.mono ?_; clear hD; rintro e w9 ⟨b9, ja, jc, rfl, ho9, _⟩)
    obtain ⟨s, hs⟩ : ∃ s, w9.heap.size = s := ⟨_, rfl⟩
    have hrs : r < s := by have := b9.size; have := Hs8.out; omega
    have hal := (Below.refl w9.heap.size w9).alloc (Nat.le_refl _) (.cells #[.slice ja m jc, .int .i64 g, .int .i64 k, .bool bk] 41)
    have hQ := Blk.new w9 #[.slice ja m jc, .int .i64 g, .int .i64 k, .bool bk] 41 s hs.symm
    have hs10 := World.size_alloc w9 (.cells #[.slice ja m jc, .int .i64 g, .int .i64 k, .bool bk] 41)
    generalize w9.alloc (.cells #[.slice ja m jc, .int .i64 g, .int .i64 k, .bool bk] 41) = W10 at *
    rw [Hs8.out] at ho9
    have h10 : C7 w W10 r s ia ja ic jc m l g k bk :=
      ⟨(HB8.out.trans (b9.mono HB8.out.size)).trans (hal.mono (HB8.out.trans (b9.mono HB8.out.size)).size), (HP.out.below b9 HP.out.lt).below hal (HP.out.below b9 HP.out.lt).lt, hQ, nd_own_below (nd_own_below Hrp.out b9) hal, nd_own_below ho9 hal⟩
    rw [hs]
    have Hs10 := Lib.hid (show W10.heap.size = s + 1 by omega)
    have Hrs := Lib.hid hrs
    have H10 := Lib.hid h10
    clear hal hQ hs10 ho9 b9 hs hrs h10 c0 c1 c2 c3 c4 c5 c6 c7 c8
    have hI := is7' (g := g) (k := k) (bk := bk) Hm.out H10.out.rp H10.out.rd hl3
    have hno : (no != no) = false := by simp
    obtain ⟨p0, p1, p2, p3, _⟩ := blk4 H10.out.p
    obtain ⟨d0, d1, d2, d3, _⟩ := blk4 H10.out.d
    go_upto_region 7 with (go_at_call 12; refine hI.mono ?_; clear hI; rintro e w11 ⟨rfl, b11⟩)
    have H11 := Lib.hid (H10.out.step b11)
    have hs11 : s < w11.heap.size := by have := b11.size; have := Hs10.out; omega
    clear b11 p0 p1 p2 p3 d0 d1 d2 d3 hno
    obtain ⟨p0, p1, p2, p3, _⟩ := blk4 H11.out.p
    have hCo := ccopy' (g := g) (k := k) (bk := bk) Hm.out H11.out.rp Hz7.out hl3
    go_upto_region 8 with (go_at_call 13; refine hCo.mono ?_; clear hCo; rintro e w12 ⟨b12, ka, kc, rfl, ho12⟩)
    have H12 := Lib.hid (H11.out.step b12)
    obtain ⟨u, hu⟩ : ∃ u, w12.heap.size = u := ⟨_, rfl⟩
    have hal := (Below.refl w12.heap.size w12).alloc (Nat.le_refl _) (.cells #[.slice ka m kc, .int .i64 g, .int .i64 k, .bool bk] 32)
    have hK := Blk.new w12 #[.slice ka m kc, .int .i64 g, .int .i64 k, .bool bk] 32 u hu.symm
    have hsu : s < u := by have := b12.size; omega
    generalize w12.alloc (.cells #[.slice ka m kc, .int .i64 g, .int .i64 k, .bool bk] 32) = W13 at *
    have H13 := Lib.hid (H12.out.step hal)
    have hrk := own_less (show s + 1 ≤ w11.heap.size by omega) (nd_own_below ho12 hal)
    rw [hu]
    have Hrk := Lib.hid hrk
    have HK := Lib.hid hK
    have Hsu := Lib.hid hsu
    clear hal hK hsu hrk ho12 hs11 b12 hu p0 p1 p2 p3
    obtain ⟨p0, p1, p2, p3, _⟩ := blk4 H13.out.p
    go_wp2_with fail
    go_loopw [42] (fun i wr => ∃ (j : Nat) (l' : List Inn), j ≤ m ∧ i = .int .i64 j ∧ l'.length = m ∧ wr.ownsRow w.heap.size 49 7 (.slice ia m ic) m (inF l') ∧ W13.grownBy wr (Value.slice ia m ic).ownBlock) (fun i _ => m - (intOf i).toNat)
    case atStart => exact ⟨0, l, by omega, rfl, Hm.out, H13.out.rp, World.grownBy.refl _ _⟩
    case round =>
      obtain ⟨j, l', hj, rfl, hlen, hrow, hg⟩ := hrel
      have hPr := blk_grown' H13.out.p hg (fun e => by have := (Hq7.out _ e).2; omega)
      clear p0 p1 p2 p3
      obtain ⟨p0, p1, p2, p3, _⟩ := blk4 hPr
      have Hg := Lib.hid hg
      have Hlen := Lib.hid hlen
      have Hrow := Lib.hid hrow
      clear hPr hg hlen hrow
      by_cases hlt : j < m
      · obtain ⟨q, rfl, hq, hic, him, hcell⟩ := rowr_own' Hlen.out Hrow.out (by rw [Hlen.out]; omega)
        rw [Hlen.out] at hic
        have hji : (j : Int) < (m : Int) := by omega
        have Wj : IntKind.i64.wrap ((j : Int) + 1) = (j : Int) + 1 := IntWalk.i64_in _ (by omega)
        have hjl : j < l'.length := by rw [Hlen.out]; omega
        have x5 : wr.cell? ⟨q, j * 7 + 5, none⟩ = some (.int .i64 (l'[j]'hjl).x) := (hcell j hjl 5 (by omega)).trans rfl
        have f5 := World.ownsRow.frozenAt Hrow.out (j * 7 + 5)
        obtain ⟨s1, s2⟩ := World.ownsRow.stored Hrow.out (j * 7 + 5) (.int .i64 (IntKind.i64.wrap ((l'[j]'hjl).x + 1)))
        rw [← inF_updX _ l' j hjl] at s1
        have HF := Lib.hid (And.intro s1 (And.intro ((upd_len _ _ _).trans Hlen.out : (upd l' j fun i => { i with x := IntKind.i64.wrap ((l'[j]'hjl).x + 1) }).length = m) (show W13.grownBy _ (some q) from Hg.out.trans s2)))
        clear s1 s2 hcell
        generalize (l'[j]'hjl).x = X at *
        obtain ⟨Y, hY⟩ : ∃ Y, IntKind.i64.wrap (X + 1) = Y := ⟨_, rfl⟩
        rw [hY] at HF
        go_wp2_with fail
        go_roundw
        case rel => exact ⟨j + 1, _, by omega, by go_num, HF.out.2.1, HF.out.1, HF.out.2.2⟩
        case measure => simp [intOf]; omega
      · obtain rfl : m = j := by omega
        have hKw := blk_grown' HK.out Hg.out (fun e => by have := (Hq7.out _ e).2; have := Hrs.out; have := Hsu.out; omega)
        have hDw := blk_grown' H13.out.d Hg.out (fun e => by have := (Hq7.out _ e).2; have := Hrs.out; omega)
        have hkw := Hrk.out.kept Hg.out (by
          rcases hk : (Value.slice ka m kc).ownBlock with _ | b
          · exact .inl rfl
          · exact .inr fun e => by have := own_of Hrk.out b hk; have := (Hq7.out b e.symm).2; have := Hrs.out; omega)
        have hdw := H13.out.rd.kept Hg.out (by
          rcases hk : (Value.slice ja m jc).ownBlock with _ | b
          · exact .inl rfl
          · exact .inr fun e => by have := own_of H13.out.rd b hk; have := (Hq7.out b e.symm).2; omega)
        have hI := is7' (g := g) (k := k) (bk := bk) Hm.out hkw hdw hl3
        have HF := Lib.hid (H13.out.b.grown Hg.out H13.out.b.size (fun b hb => (Hq7.out b hb).1))
        obtain ⟨k0, k1, k2, k3, _⟩ := blk4 hKw
        obtain ⟨d0, d1, d2, d3, _⟩ := blk4 hDw
        clear hKw hDw hkw hdw
        go_wp2_with (go_at_call 12; refine hI.mono ?_; clear hI; rintro e w14 ⟨rfl, b14⟩)
        go_ret
        exact ⟨rfl, HF.out.trans (b14.mono HF.out.size)⟩
end Go.Proofs.Ytihfenkphhnbcaa
