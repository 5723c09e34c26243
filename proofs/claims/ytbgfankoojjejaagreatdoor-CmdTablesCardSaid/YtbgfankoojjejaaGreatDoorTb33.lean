/- The proof's texts CmBe, CmBf, NdWg: what the claim reaches of them. -/
import Derived.Test.YtbgfankoojjejaaGreatDoorTb32
import Derived.Deep.RegionHeld3
import Derived.Test.YtbgfankoojjejaaGreatDoorTb31
import Derived.Test.YtbgfankoojjejaaGreatDoorTb06
import Derived.Test.YtbgfankoojjejaaGreatDoorTb02
import Derived.RangeFuncBound
import Derived.RangeFuncCalls
import Derived.Shelf.Abstract
import Derived.Shelf.RegionOpen
import Derived.WalkKit
import Derived.OwnWalkIn
import Derived.TacticsInMore
import Derived.LoopNIn
import Derived.LoopIn
import Derived.Sort.LoopGhostIn
import Derived.Sort.CutIn
import Derived.Maps.OwnIn
namespace Go.Proofs.YtbgfankoojjejaaGreatDoor
open Go Go.RowKit
theorem freeze_far (W : World) (g n k : Nat) (h : k ≠ g) : (W.freeze ⟨g, 0, none⟩ n).heap[k]? = W.heap[k]? := by
 unfold World.freeze
 split
 ·rfl
 ·simp [Array.getElem?_modify, Ne.symm h]
theorem freeze_size (W : World) (a : Addr) (n : Nat) : (W.freeze a n).heap.size = W.heap.size := by
 unfold World.freeze
 split
 ·rfl
 ·simp
set_option linter.unusedVariables false in
set_option linter.unusedSimpArgs false in
set_option maxRecDepth 100000 in
set_option maxHeartbeats 2000000 in
/-- What was written, as a string. -/
theorem mstring_any {B b : Nat} {ps : List Cp} {t : List UInt8} {pv av bv : Value} {W : World} (h : MkS B b ps t pv av bv W) (h0 : t ≠ []) (hl : t.length ≤ 4000000) :
  Calls Tryz.prog 55 #[.pointer (some ⟨b, 1, none⟩)] W fun e W' => e = .returned (.string ⟨t.toArray⟩) ∧ (∀ k, bv.ownBlock ≠ some k → W'.heap[k]? = W.heap[k]?) ∧ Below B W W' ∧ W'.heap.size = W.heap.size := by
 have hown := h.br
 have hbk := h.q
 have hl0 : t.length ≠ 0 := by simpa using h0
 rcases hown.2 with ⟨_, hz⟩ | ⟨g, cap, cur, fz, rfl, hbg, hg, hfz, hnc, hcm, hcs, htk⟩
 ·exact absurd hz hl0
 ·have c1 : W.drew.cell? ⟨b, 2, none⟩ = some (.slice (some ⟨g, 0, none⟩) t.length cap) := (hbk.cell 2).trans rfl
  have hSD : (Builtin.unsafeSliceData_ #[22] 156 #[.slice (some ⟨g, 0, none⟩) t.length cap]).run Tryz.prog W.drew = .ok (.pointer (some ⟨g, 0, none⟩)) W.drew := Lib.run_unsafeSliceData_row _ _ _ _ _ _ (by omega)
  have hUS : (Builtin.unsafeString_ #[156, 3] 9 #[.pointer (some ⟨g, 0, none⟩), .int .i64 t.length]).run Tryz.prog W.drew = .ok (.string ⟨t.toArray⟩) (W.drew.freeze ⟨g, 0, none⟩ t.length) := by
   refine Lib.run_unsafeString_row W.drew 156 3 9 5 Tryz.underlying156 (by kernel_rfl) g cur.size (by have hg' : W.drew.heap[g]? = some (.cells cur 5 fz) := hg; simp [World.shape?, hg']) t h0 (by omega) (by unfold maxLen at hcm; omega) ?_
   intro j x hx
   exact hown.cells (g := g) rfl j (.int .u8 x.toNat) (by simp [Lib.byteCells, hx])
  clear h hown hbk
  go_enter Tryz.func55, Tryz.ntmps55
  go_wp2
  go_region
  all_goals
   go_wp2
   go_ret
   refine ⟨rfl, fun k hk => ?_, Lib.below_freeze (Below.drew (Below.refl B W)) (p := ⟨g, 0, none⟩) hbg _, freeze_size _ _ _⟩
   exact freeze_far W.drew g _ k (fun e => hk (by rw [e]; rfl))
theorem part_info : ∃ i, Tryz.prog.info? 43 = some i ∧ i.zero = some (.agg #[.int .i64 0, .string ⟨#[]⟩]) ∧ i.size = 2 ∧ i.bytes = 24 := by
 have h : (Tryz.prog.info? 43).map (fun i => (i.zero, i.size, i.bytes)) = some (some (.agg #[.int .i64 0, .string ⟨#[]⟩]), 2, 24) := by kernel_rfl
 obtain ⟨i, hi, he⟩ := Option.map_eq_some_iff.1 h
 injection he with h1 h2
 injection h2 with h2 h3
 exact ⟨i, hi, h1, h2, h3⟩
theorem two_new (w : World) (u v : Value) (t : TypeId) : ∀ j x, [u, v][j]? = some x → (w.alloc (.cells #[u, v] t)).cell? ((⟨w.heap.size, 0, none⟩ : Addr).add j) = some x := by
 have hb := Blk.new w #[u, v] t w.heap.size rfl
 intro j x hx
 rw [Go.WideShapes.add_plain, Nat.zero_add, hb.cell j, ← Array.getElem?_toList]
 exact hx
theorem MkS.part {B b : Nat} {ps : List Cp} {t : List UInt8} {pv av bv : Value} {W W1 w6 : World} (h : MkS B b ps t pv av bv W) (hb : Below W.heap.size W W1) (c : Cp) {v6 : Value} (hg : W1.grownBy w6 pv.ownBlock) (ho : w6.ownsRow B 43 2 v6 (ps.length + 1) (cpC ps ++ [.int .i64 c.1, .string (txt c.2)])) :
  MkS B b (ps ++ [c]) t v6 av bv (w6.setCell ⟨b, 0, none⟩ v6) := by
 have hs1 := hb.size
 have hq6 := blkGrownR (h.q.below hb h.q.lt) hg h.np
 have hn6 : v6.ownBlock ≠ some b := own_ne ho hq6 (by decide)
 refine ⟨hq6.set 0 _, h.bb, h.a, ?_, ?_⟩
 ·rw [cpC_snoc, List.length_append]
  exact own_row_same ho fun k hk => set_far _ _ _ _ k fun e => hn6 (by rw [hk, e])
 ·refine rowF_same h.br fun k hk => ?_
  rw [set_far _ _ _ _ k fun e => h.nb (by rw [hk, e]), hg.block k (by have := (h.br.lt k hk).2; omega) (fun e => h.npb k e.symm hk), hb.block k (h.br.lt k hk).2]
set_option linter.unusedVariables false in
set_option linter.unusedSimpArgs false in
set_option maxRecDepth 100000 in
set_option maxHeartbeats 4000000 in
/-- The text is ended. -/
theorem kendt_any {B b : Nat} {ps : List Cp} {t : List UInt8} {pv av bv : Value} {W : World} (h : MkS B b ps t pv av bv W) (hl : t.length ≤ 4000000) (hp : ps.length ≤ 4000000) (hBw : B ≤ W.heap.size) :
  Calls Tryz.prog 81 #[.pointer (some ⟨b, 0, none⟩)] W fun e W' => e = .returned (.tuple #[]) ∧ (∃ pv' av' bv', MkS B b (cpEnd ps t) [] pv' av' bv' W') ∧ Below B W W' := by
 have hL := mlen_any h
 unfold cpEnd
 by_cases ht : t = []
 ·rw [if_pos ht]
  have hz : ¬ (0 : Int) < (t.length : Int) := by simp [ht]
  have HH := Lib.hid (show MkS B b ps [] pv av bv W by rw [← ht]; exact h)
  clear h ht
  go_enter Tryz.func81, Tryz.ntmps81
  go_wp2_with (go_at_call 98; refine hL.mono ?_; rintro e w1 ⟨rfl, rfl⟩)
  go_end0
  exact ⟨rfl, ⟨_, _, _, HH.out⟩, Below.refl _ _⟩
 ·rw [if_neg ht]
  have hz : (0 : Int) < (t.length : Int) := by have := List.length_pos_iff.2 ht; omega
  have hS := fun (W1 : World) (h1 : MkS B b ps t pv av bv W1) => mstring_any h1 ht hl
  obtain ⟨i0, hi, hz0, hz1, hz2⟩ := part_info
  have hm1 : ps.length + 1 ≤ maxLen := by unfold maxLen; omega
  have hm2 : (ps.length + 1) * 24 ≤ 140737488355328 := by omega
  have c0 : W.cell? ⟨b, 0, none⟩ = some pv := (h.q.cell 0).trans rfl
  obtain ⟨pa, pc, rfl⟩ := own_form' h.pr
  have hlt := h.q.lt
  have HH := Lib.hid h
  have HB := Lib.hid hBw
  have Ht := Lib.hid ht
  clear h hBw ht
  go_enter Tryz.func81, Tryz.ntmps81
  go_upto_region 1 with (go_at_call 98; refine hL.mono ?_; rintro e w0 ⟨rfl, hw⟩; have hw' := hw.symm; subst hw')
  go_cut [] (fun wx => ∃ v6, Blk wx b #[v6, av, bv] 158 ∧ wx.ownsRow B 43 2 v6 (ps.length + 1) (cpC ps ++ [.int .i64 (-1), .string (txt t)]) ∧ Below B W wx)
  case first =>
   go_region_law (first
    | (refine step_append_any rfl _ _ 31 rfl B 43 i0 (.agg #[.int .i64 0, .string ⟨#[]⟩]) 2 24 Tryz.underlying31 hi hz0 hz1 hz2 rfl (by decide) (.slice pa ps.length pc) ps.length (cpC ps) rfl (nd_own_below HR1.out (by repeat (first | (with_reducible exact Below.refl _ _) | refine Below.drew ?_ | refine Below.alloc ?_ (Nat.le_refl _) _))) (some ⟨w1.heap.size, 0, none⟩) 1 1 [.int .i64 (-1), .string ⟨t.toArray⟩] rfl rfl (fun _ => ⟨_, rfl, two_new _ _ _ _⟩) (by intro u hu; simp at hu; rcases hu with rfl | rfl <;> rfl) hm1 hm2 (by simp; omega) ?_; intro v6 w6 hown6 hgrow6 hat6; obtain ⟨a6, c6, rfl⟩ := own_form' hown6; have hbl := (Below.refl w1.heap.size w1).alloc (Nat.le_refl _) (.cells #[.int .i64 (-1), .string ⟨t.toArray⟩] 43); have hq6 := blkGrownR (HQ1.out.below hbl HQ1.out.lt) hgrow6 HH.out.np; have HG := Lib.hid (show Blk w6 b #[_, av, bv] _ ∧ World.ownsRow w6 B 43 2 (.slice a6 (ps.length + 1) c6) (ps.length + 1) (cpC ps ++ [.int .i64 (-1), .string (txt t)]) ∧ Below B W w6 from ⟨hq6, hown6, (HB1.out.trans (hbl.mono hbs)).grown hgrow6 (by simp; omega) (fun k hk => own_of HH.out.pr k hk)⟩); have f0 := hq6.frozen 0; have g0 : w6.cell? ⟨b, 0, none⟩ = some (.slice pa ps.length pc) := (hq6.cell 0).trans rfl; clear hown6 hgrow6 hat6 hq6 hbl)
    | (go_simp; go_at_call 55; refine (hS _ (by first | exact HH.out | exact (show MkS B b ps t _ av bv W.drew from ⟨HH.out.q, HH.out.bb, HH.out.a, HH.out.pr, HH.out.br⟩))).mono ?_; rintro e w1 ⟨rfl, k1, b1, s1⟩; have HB1 := Lib.hid (by first | exact b1 | exact (Below.refl B W).drew.trans b1 : Below B W w1); have HQ1 := Lib.hid (show Blk w1 b _ _ from (k1 b HH.out.nb).trans HH.out.q); have HR1 := Lib.hid (own_row_same (w := W) HH.out.pr fun g hg => k1 g (HH.out.npb g hg)); have hbs : B ≤ w1.heap.size := Nat.le_trans HB.out HB1.out.size; have d0 : w1.cell? ⟨b, 0, none⟩ = some (.slice pa ps.length pc) := (HQ1.out.cell 0).trans rfl; have hlt1 : b < w1.heap.size := HQ1.out.lt; clear k1 b1 s1))
   all_goals
    (try go_wp2_with fail)
    go_meet
    refine ⟨_, HG.out.1.set 0 _, own_row_same HG.out.2.1 fun k hk => set_far _ _ _ _ k fun e => own_ne HG.out.2.1 HG.out.1 (by decide) (by rw [hk, e]), HG.out.2.2.setCell (p := ⟨b, 0, none⟩) HH.out.bb _⟩
  case rest =>
   obtain ⟨v6, q6, r6, b6⟩ := hcut
   have hR := mreset_any q6 HH.out.bb (ps := ps ++ [(-1, t)]) (by rw [cpC_snoc, List.length_append]; exact r6)
   have HB6 := Lib.hid b6
   clear q6 r6 b6 hL hS c0
   go_wp2_with (go_at_call 99; refine hR.mono ?_; rintro e w7 ⟨rfl, h7, b7⟩)
   go_end0
   exact ⟨rfl, ⟨_, _, _, h7⟩, HB6.out.trans b7⟩
set_option linter.unusedVariables false in
set_option linter.unusedSimpArgs false in
set_option maxRecDepth 100000 in
set_option maxHeartbeats 4000000 in
/-- A group is put behind. -/
theorem kaddg_any {B b : Nat} {ps : List Cp} {t : List UInt8} {pv av bv : Value} {W : World} (n : Int) (h : MkS B b ps t pv av bv W) (hl : t.length ≤ 4000000) (hp : ps.length ≤ 3000000) (hBw : B ≤ W.heap.size) :
  Calls Tryz.prog 80 #[.pointer (some ⟨b, 0, none⟩), .int .i64 n] W fun e W' => e = .returned (.tuple #[]) ∧ (∃ pv' av' bv', MkS B b (cpEnd ps t ++ [(n, [])]) [] pv' av' bv' W') ∧ Below B W W' := by
 have hE := kendt_any h hl (by omega) hBw
 have hpl : (cpEnd ps t).length ≤ 3000001 := by
  unfold cpEnd
  split
  ·omega
  ·simp; omega
 generalize cpEnd ps t = qs at hE hpl ⊢
 obtain ⟨i0, hi, hz0, hz1, hz2⟩ := part_info
 have HBw := Lib.hid hBw
 clear h hBw
 go_enter Tryz.func80, Tryz.ntmps80
 go_upto_region 1 with (go_at_call 81; refine hE.mono ?_; clear hE; rintro e w1 ⟨rfl, ⟨pv1, av1, bv1, h1⟩, b1⟩; have H1 := Lib.hid h1; have HB1 := Lib.hid b1; obtain ⟨pa, pc, rfl⟩ := own_form' h1.pr; have hlt := h1.q.lt; have c0 : w1.cell? ⟨b, 0, none⟩ = some (.slice pa qs.length pc) := (h1.q.cell 0).trans rfl; clear h1 b1)
 have hm1 : qs.length + 1 ≤ maxLen := by unfold maxLen; omega
 have hm2 : (qs.length + 1) * 24 ≤ 140737488355328 := by omega
 have hbs : B ≤ w1.heap.size := Nat.le_trans HBw.out HB1.out.size
 have hbl := (Below.refl w1.heap.size w1).alloc (Nat.le_refl _) (.cells #[.int .i64 n, .string ⟨#[]⟩] 43)
 have hbs2 : B ≤ (w1.alloc (.cells #[.int .i64 n, .string ⟨#[]⟩] 43)).heap.size := by have := hbl.size; omega
 have HBL := Lib.hid hbl
 clear hbl
 go_wp2_with (at_builtin; go_loud (refine wpList_append_own_at _ rfl _ _ 31 rfl B 43 i0 (.agg #[.int .i64 0, .string ⟨#[]⟩]) 2 24 Tryz.underlying31 hi hz0 hz1 hz2 rfl (by decide) (.slice pa qs.length pc) qs.length (cpC qs) rfl (nd_own_below H1.out.pr HBL.out) ⟨w1.heap.size, 0, none⟩ 1 1 [.int .i64 n, .string ⟨#[]⟩] rfl rfl (two_new _ _ _ _) (by intro u hu; simp at hu; rcases hu with rfl | rfl <;> rfl) hm1 hm2 hbs2 ?_; intro v6 w6 hown6 hgr6 _ hat6; obtain ⟨a6, c6, rfl⟩ := own_form' hown6; have HP := Lib.hid (H1.out.part HBL.out (n, []) hgr6 hown6); have hq6 := blkGrownR (H1.out.q.below HBL.out H1.out.q.lt) hgr6 H1.out.np; have f0 := hq6.frozen 0; have g0 : w6.cell? ⟨b, 0, none⟩ = some (.slice pa qs.length pc) := (hq6.cell 0).trans rfl; have HB6 := Lib.hid (((HB1.out.trans (HBL.out.mono hbs)).grown hgr6 (by simp; omega) (fun k hk => own_of H1.out.pr k hk)).setCell (p := ⟨b, 0, none⟩) H1.out.bb (.slice a6 (qs.length + 1) c6)); clear hown6 hgr6 hat6 hq6))
 go_end0
 exact ⟨rfl, ⟨_, _, _, HP.out⟩, HB6.out⟩
end Go.Proofs.YtbgfankoojjejaaGreatDoor
namespace Go.Proofs.YtbgfankoojjejaaGreatDoor
open Go Go.RowKit
def PtA (W : World) (R : List Cp × Nat) (e : Ending) (W' : World) : Prop := Below W.heap.size W W' ∧ ∃ pa pc, e = .returned (.tuple #[.slice pa R.1.length pc, .int .i64 (R.2 : Int)]) ∧ W'.ownsRow W.heap.size 43 2 (.slice pa R.1.length pc) R.1.length (cpC R.1)
theorem pta_err {W W' : World} (hb : Below W.heap.size W W') (k : Nat) : PtA W ([], k) (.returned (.tuple #[.slice none 0 0, .int .i64 (k : Int)])) W' := ⟨hb, none, 0, rfl, World.ownsRow_nil _ _ _ _⟩
theorem cpEnd_len (ps : List Cp) (t : List UInt8) : (cpEnd ps t).length ≤ ps.length + 1 := by
 unfold cpEnd
 split
 ·omega
 ·simp
set_option linter.unusedVariables false in
set_option linter.unusedSimpArgs false in
set_option maxRecDepth 100000 in
set_option maxHeartbeats 8000000 in
theorem kparts_any (s : ByteArray) (n : Nat) (W : World) (hs : s.size ≤ 4000) :
  Calls Tryz.prog 56 #[.string s, .int .i64 (n : Int)] W (PtA W (cpRun n s.data.toList false [] [])) := by
 obtain ⟨R, hR⟩ : ∃ R, cpRun n s.data.toList false [] [] = R := ⟨_, rfl⟩
 rw [hR]
 have HR := Lib.hid hR
 clear hR
 obtain ⟨W0, hW0⟩ : ∃ W0, W.alloc (.cells #[.slice none 0 0, .pointer none, .slice none 0 0] 158) = W0 := ⟨_, rfl⟩
 have hq0 := blkOfAlloc hW0
 have hb0 := belowOfAlloc hW0
 have hM0 : MkS W.heap.size W.heap.size [] [] (.slice none 0 0) (.pointer none) (.slice none 0 0) W0 := ⟨hq0, Nat.le_refl _, .inl rfl, World.ownsRow_nil _ _ _ _, World.ownsRowF_nil _ _ _ _⟩
 have HB0 := Lib.hid hb0
 have HM0 := Lib.hid hM0
 clear hq0 hb0 hM0
 go_enter Tryz.func56, Tryz.ntmps56
 go_wp2_with fail
 go_loopw [7, 13] (fun e i wr => ∃ (j : Nat) (esc : Bool) (ps : List Cp) (t : List UInt8) (pv av bv : Value), j ≤ s.size ∧ e = .bool esc ∧ i = .int .i64 j ∧ MkS W.heap.size W.heap.size ps t pv av bv wr ∧ Below W.heap.size W wr ∧ cpRun n (s.data.toList.drop j) esc ps t = R ∧ t.length ≤ j ∧ ps.length ≤ 2 * j) (fun _ i _ => s.size - (intOf i).toNat)
 case atStart => exact ⟨0, false, [], [], _, _, _, by omega, rfl, rfl, HM0.out, HB0.out, HR.out, by simp, by simp⟩
 case round =>
  obtain ⟨j, esc, ps, t, pv, av, bv, hj, rfl, rfl, hm, hbw, hc, htl, hpl⟩ := hrel
  have HM := Lib.hid hm
  have HB := Lib.hid hbw
  have hBs : W.heap.size ≤ wr.heap.size := hbw.size
  clear hm hbw
  by_cases hlt : j < s.size
  ·have hji : (j : Int) < (s.size : Int) := by omega
   have hy0 : (0 : Int) ≤ (j : Int) := by omega
   rw [drop_at s j hlt] at hc
   obtain ⟨b, hb⟩ : ∃ b, s[j] = b := ⟨_, rfl⟩
   have hsx : s[j]'hlt = b := hb
   rw [hb] at hc
   clear hb
   have Wj : IntKind.i64.wrap ((j : Int) + 1) = (j : Int) + 1 := IntWalk.i64_in _ (by omega)
   cases esc with
   | false =>
    by_cases h92 : b = 92
    ·have q92 : ((b.toNat : Int) == 92) = true := by rw [h92]; rfl
     have HC := Lib.hid (show cpRun n (s.data.toList.drop (j + 1)) true ps t = R by rw [← hc, h92]; simp [cpRun])
     clear h92 hc
     go_wp2_with fail
     go_roundw
     case rel => exact ⟨j + 1, true, ps, t, pv, av, bv, by omega, rfl, by go_num, HM.out, HB.out, HC.out, by omega, by omega⟩
     case measure => simp [intOf]; omega
    ·have q92 : ((b.toNat : Int) == 92) = false := cmu_ne (c := 92) h92
     by_cases h38 : b = 38
     ·have q38 : ((b.toNat : Int) == 38) = true := by rw [h38]; rfl
      have HC := Lib.hid (show cpRun n (s.data.toList.drop (j + 1)) false (cpEnd ps t ++ [(0, [])]) [] = R by rw [← hc, h38]; simp [cpRun])
      clear h92 h38 hc
      have hAg := kaddg_any 0 HM.out (by omega) (by omega) hBs; go_wp2_with (first | (go_at_call 59; refine (kdigit_any _ _).mono ?_; rintro e w5 ⟨rfl, hw5⟩; have hw5' := hw5.symm; subst hw5') | (go_at_call 80; with_reducible refine hAg.mono ?_; clear hAg; rintro e w6 ⟨rfl, ⟨pv6, av6, bv6, h6⟩, b6⟩)); go_roundw; (case rel => exact ⟨j + 1, false, cpEnd ps t ++ [(0, [])], [], pv6, av6, bv6, by omega, rfl, by go_num, h6, HB.out.trans b6, HC.out, by simp, by have := cpEnd_len ps t; simp; omega⟩); (case measure => simp [intOf]; omega)
     ·have q38 : ((b.toNat : Int) == 38) = false := cmu_ne (c := 38) h38
      have HC := Lib.hid (show cpRun n (s.data.toList.drop (j + 1)) false ps (t ++ [b]) = R by rw [← hc]; simp [cpRun, h92, h38])
      clear h92 h38 hc
      have hWb := mwbyte_any b HM.out (by omega) hBs; go_wp2_with (first | (go_at_call 59; refine (kdigit_any _ _).mono ?_; rintro e w5 ⟨rfl, hw5⟩; have hw5' := hw5.symm; subst hw5') | (go_at_call 54; with_reducible refine hWb.mono ?_; clear hWb; rintro e w6 ⟨rfl, ⟨bv6, h6⟩, b6⟩)); go_roundw; (case rel => exact ⟨j + 1, false, ps, t ++ [b], pv, _, bv6, by omega, rfl, by go_num, h6, HB.out.trans b6, HC.out, by simp; omega, by omega⟩); (case measure => simp [intOf]; omega)
   | true =>
    by_cases hd : pcDigits.contains b = true
    ·have hd2 := hd
     rw [pcDigits_iff] at hd2
     simp only [Bool.and_eq_true, decide_eq_true_eq] at hd2
     obtain ⟨m, hmb⟩ : ∃ m, b.toNat - 48 = m := ⟨_, rfl⟩
     have Wm : IntKind.u8.wrap ((b.toNat : Int) - 48) = (m : Int) := by
      rw [show ((b.toNat : Int) - 48) = (m : Int) by omega]
      simp [IntKind.wrap, IntKind.bits, IntKind.signed]
      omega
     have Wi : IntKind.i64.wrap (m : Int) = (m : Int) := IntWalk.i64_in _ (by omega)
     have hdc : pcDigits.contains b = true := hd
     by_cases hnm : n < m
     ·have hni : (n : Int) < (m : Int) := by omega
      have HC := Lib.hid (show R = ([], 9) by rw [← hc]; unfold cpRun; rw [if_pos hd, hmb, if_pos hnm])
      clear hd hc hd2
      go_wp2_with (go_at_call 59; refine (kdigit_any _ _).mono ?_; rintro e w5 ⟨rfl, hw5⟩; have hw5' := hw5.symm; subst hw5'; rw [hdc])
      go_ret2
      rw [HC.out]
      exact pta_err HB.out 9
     ·have hni : ¬ (n : Int) < (m : Int) := by omega
      have HC := Lib.hid (show cpRun n (s.data.toList.drop (j + 1)) false (cpEnd ps t ++ [((m : Int), [])]) [] = R by rw [← hc]; conv => rhs; unfold cpRun; rw [if_pos hd, hmb, if_neg hnm])
      clear hd hc hd2
      have hAg := kaddg_any (m : Int) HM.out (by omega) (by omega) hBs; go_wp2_with (first | (go_at_call 59; refine (kdigit_any _ _).mono ?_; rintro e w5 ⟨rfl, hw5⟩; have hw5' := hw5.symm; subst hw5'; rw [hdc]) | (go_at_call 80; go_loud (refine hAg.mono ?_; clear hAg; rintro e w6 ⟨rfl, ⟨pv6, av6, bv6, h6⟩, b6⟩))); go_roundw; (case rel => exact ⟨j + 1, false, cpEnd ps t ++ [((m : Int), [])], [], pv6, av6, bv6, by omega, rfl, by go_num, h6, HB.out.trans b6, HC.out, by simp, by have := cpEnd_len ps t; simp; omega⟩); (case measure => simp [intOf]; omega)
    ·have hdc : pcDigits.contains b = false := by simpa using hd
     by_cases h110 : b = 110
     ·have q110 : ((b.toNat : Int) == 110) = true := by rw [h110]; rfl
      have HC := Lib.hid (show cpRun n (s.data.toList.drop (j + 1)) false ps (t ++ [10]) = R by rw [← hc, h110]; simp [cpRun, pcDigits])
      clear hd hc h110
      have hWb := mwbyte_any 10 HM.out (by omega) hBs; rw [show (((10 : UInt8).toNat : Nat) : Int) = 10 from rfl] at hWb; go_wp2_with (first | (go_at_call 59; refine (kdigit_any _ _).mono ?_; rintro e w5 ⟨rfl, hw5⟩; have hw5' := hw5.symm; subst hw5'; rw [hdc]) | (go_at_call 54; with_reducible refine hWb.mono ?_; clear hWb; rintro e w6 ⟨rfl, ⟨bv6, h6⟩, b6⟩)); go_roundw; (case rel => exact ⟨j + 1, false, ps, t ++ [10], pv, _, bv6, by omega, rfl, by go_num, h6, HB.out.trans b6, HC.out, by simp; omega, by omega⟩); (case measure => simp [intOf]; omega)
     ·have q110 : ((b.toNat : Int) == 110) = false := cmu_ne (c := 110) h110
      have HC := Lib.hid (show cpRun n (s.data.toList.drop (j + 1)) false ps (t ++ [b]) = R by rw [← hc]; conv => rhs; unfold cpRun; rw [if_neg hd, if_neg h110])
      clear hd hc h110
      have hWb := mwbyte_any b HM.out (by omega) hBs; go_wp2_with (first | (go_at_call 59; refine (kdigit_any _ _).mono ?_; rintro e w5 ⟨rfl, hw5⟩; have hw5' := hw5.symm; subst hw5'; rw [hdc]) | (go_at_call 54; with_reducible refine hWb.mono ?_; clear hWb; rintro e w6 ⟨rfl, ⟨bv6, h6⟩, b6⟩)); go_roundw; (case rel => exact ⟨j + 1, false, ps, t ++ [b], pv, _, bv6, by omega, rfl, by go_num, h6, HB.out.trans b6, HC.out, by simp; omega, by omega⟩); (case measure => simp [intOf]; omega)
  ·obtain rfl : j = s.size := by omega
   rw [drop_end s s.size (Nat.le_refl _)] at hc
   cases esc with
   | true =>
    have HC := Lib.hid (show R = ([], 11) by rw [← hc]; rfl)
    clear hc
    go_wp2_with fail
    go_ret2
    rw [HC.out]
    exact pta_err HB.out 11
   | false =>
    have HC := Lib.hid (show R = (cpEnd ps t, 0) by rw [← hc]; rfl)
    have hE := kendt_any HM.out (by omega) (by omega) hBs
    clear hc
    go_wp2_with (go_at_call 81; with_reducible refine hE.mono ?_; clear hE; rintro e w6 ⟨rfl, ⟨pv6, av6, bv6, h6⟩, b6⟩; have H6 := Lib.hid h6; have c0 : w6.cell? ⟨W.heap.size, 0, none⟩ = some pv6 := (h6.q.cell 0).trans rfl; clear h6)
    go_ret2
    rw [HC.out]
    obtain ⟨a6, c6, rfl⟩ := own_form' H6.out.pr
    exact ⟨HB.out.trans b6, a6, c6, rfl, H6.out.pr⟩
end Go.Proofs.YtbgfankoojjejaaGreatDoor
namespace Go.Proofs.YtbgfankoojjejaaGreatDoor
open Go Go.RowKit
attribute [local go_sem] Oper.semAt_some
theorem round_any_depth {m m' : Nat} {P : Program} {l : Nat} {f : FuncId} {tmps : Array Value} {assign body : Code} {w : World} {R : Ending → World → Prop}
  (h : RoundIn Fence.wide m P l f tmps assign body w R) : RoundIn Fence.wide m' P l f tmps assign body w R := ⟨h.1, fun c cs _ => h.2 c cs (room_wide _)⟩
theorem yield_any_depth {m : Nat} (m' : Nat) {P : Program} {l : Nat} {args : Array Value} {W : World} {R : Ending → World → Prop} (h : YieldAt Fence.wide m P l args W R) : YieldAt Fence.wide m' P l args W R := by
 obtain ⟨fn, tmps, assign, body, hy, hR⟩ := h
 exact ⟨fn, tmps, assign, body, hy, round_any_depth hR⟩
theorem open_info : ∃ i, Tryz.prog.info? 195 = some i ∧ i.zero = some (.agg #[.nilIface, .slice none 0 0]) ∧ i.size = 2 ∧ i.bytes = 40 := by
 have h : (Tryz.prog.info? 195).map (fun i => (i.zero, i.size, i.bytes)) = some (some (.agg #[.nilIface, .slice none 0 0]), 2, 40) := by kernel_rfl
 obtain ⟨i, hi, he⟩ := Option.map_eq_some_iff.1 h
 injection he with h1 h2
 injection h2 with h2 h3
 exact ⟨i, hi, h1, h2, h3⟩
def NdOk (n₀ : Nat) (root : Nd) (pre : List (Nd × Bool)) (x : Nd × Bool) (args : Array Value) (C : Nat → Prop) (base : Nat) (W : World) : Prop :=
 ∃ v, args = #[v, .bool x.2] ∧ (∃ suf, pre ++ x :: suf = evs root) ∧ NdX (fun k => k < n₀ ∨ (base ≤ k ∧ ¬ C k)) W x.1 v
set_option linter.unusedSimpArgs false in
set_option maxRecDepth 100000 in
set_option maxHeartbeats 4000000 in
theorem begin_any (n l base n₀ S Y : Nat) (root : Nd) (hsz : nsize root ≤ 4000000) (J : List (Nd × Bool) → (Nat → Prop) → World → Prop) (Jx : World → Prop)
  (hJ : ∀ pre C X Y, J pre C X → Other base C X Y → J pre C Y)
  (hR : ∀ pre x args C X, J pre C X → NdOk n₀ root pre x args C base X → YieldAt Fence.wide 0 Tryz.prog l args X fun e Y =>
   (e = .returned (.bool true) ∧ ∃ C', J (pre ++ [x]) C' Y ∧ Rdn n₀ base C C' X Y) ∨ (e = .returned (.bool false) ∧ Jx Y ∧ Rdn n₀ base C C X Y))
  (pre : List (Nd × Bool)) (C : Nat → Prop) (W : World) (s : List (Nd × List Nd)) (sv : Value) (us : List Value) (d : Nd) (v : Value)
  (hS : Stk n₀ base S Y l C W s sv us) (h0 : J pre C W) (hd : NdX (Lies n₀ base C S sv) W d v) (hp : pre ++ (evs d ++ rem s) = evs root) (hC : ∀ k, C k → k < W.heap.size) :
  CallsIn Fence.wide n Tryz.prog 101 #[v, .pointer (some ⟨S, 0, none⟩), .pointer (some ⟨Y, 0, none⟩)] W fun e Z =>
   ∃ b, e = .returned (.bool b) ∧ (b = true → ∃ C' sv' us', J (pre ++ [(d, true)]) C' Z ∧ Stk n₀ base S Y l C' Z (s ++ [(d, nkids d)]) sv' us' ∧ ∀ k, C' k → k < Z.heap.size) ∧ (b = false → Jx Z) := by
 obtain ⟨i0, hi, hz0, hz1, hz2⟩ := open_info
 have hlen : s.length + 2 ≤ 8000000 := by
  have h1 := evs_len root
  have h2 := rem_len s
  have h3 := congrArg List.length hp
  have h4 : 2 ≤ (evs d).length := by rw [evs_kids]; simp
  simp at h3
  omega
 have hI := fun (w' : World) (hb : Below W.heap.size W w') => inner_any (F := Lies n₀ base C S sv) d v w' (hd.below hb)
 have hdep : ∀ k : Nat, (Fence.wide.depth.isSome = true → 1 ≤ k) := fun k h => by simp [Fence.wide] at h
 have hbs : base ≤ W.heap.size := by have := hS.bS; have := hS.lS; omega
 have hsh : (∃ T q, v = .iface T q) ∨ v = .nilIface := hd.elim fun _ h => nd_shape h
 have hv1 : v.oneCell' = true := by rcases hsh with ⟨_, _, rfl⟩ | rfl <;> rfl
 have hm1 : s.length + 1 ≤ maxLen := by unfold maxLen; omega
 have hm2 : (s.length + 1) * 40 ≤ 140737488355328 := by omega
 have hone : ∀ (a2 : Option Addr) (k cap2 : Nat), ∀ y ∈ [v, .slice a2 k cap2], y.oneCell' = true := by
  intro a2 k cap2 y hy
  simp at hy
  rcases hy with rfl | rfl
  ·exact hv1
  ·rfl
 have hPush : ∀ (w2 w3 : World) (a2 : Option Addr) (cap2 : Nat) (v' : Value), Below W.heap.size W w2 → NdRw (fun b => Lies n₀ base C S sv b ∨ W.heap.size ≤ b) w2 (nkids d) a2 cap2 →
   w3.ownsRow base 195 2 v' (s.length + 1) (us ++ [v, .slice a2 (nkids d).length cap2]) → (w2.alloc (.cells #[v, .slice a2 (nkids d).length cap2] 195)).grownBy w3 sv.ownBlock → (v'.ownBlock = sv.ownBlock ∨ v'.ownBlock = some (w2.alloc (.cells #[v, .slice a2 (nkids d).length cap2] 195)).heap.size) →
   Boxed w3 S 193 sv ∧ Stk n₀ base S Y l C (w3.setCell ⟨S, 0, none⟩ v') (s ++ [(d, nkids d)]) v' (us ++ [v, .slice a2 (nkids d).length cap2]) ∧ Other base C W (w3.setCell ⟨S, 0, none⟩ v') ∧ NdX (Lies n₀ base C S v') (w3.setCell ⟨S, 0, none⟩ v') d v := by
  intro w2 w3 a2 cap2 v' hb2 hr2 hown' hgrow hat
  exact hS.push (hb2.trans ((Below.refl _ w2).alloc hb2.size (.cells #[v, .slice a2 (nkids d).length cap2] 195))) hd (hr2.below ((Below.refl _ w2).alloc (Nat.le_refl _) _)) hC hown' hgrow hat
 have hc := hS.box.cell
 have hf := hS.box.frozen
 have hmix : Tryz.prog.follows .mixedOrders = true := by kernel_rfl
 rcases hsh with ⟨T, q, rfl⟩ | rfl
 all_goals
  refine callsIn_of_wp Tryz.func101 rfl trivial ?_ rfl
  simp only [Tryz.ntmps101, List.size_toArray, List.length_cons, List.length_nil, Nat.reduceAdd, Nat.reduceSub, Array.replicate_succ, Array.replicate_zero, List.push_toArray, List.append_toArray, List.nil_append, List.cons_append]
  gi_upto_region 1 with fail
  gi_cut [] from 5 (fun wx => ∃ sv' us', J pre C wx ∧ Stk n₀ base S Y l C wx (s ++ [(d, nkids d)]) sv' us' ∧ Other base C W wx ∧ NdX (Lies n₀ base C S sv') wx d _)
  case first =>
   refine wpIn_wide.2 ?_
   go_region_law (first
    | (refine step_call rfl _ _ _ rfl 45 _ rfl (by rfl) (enters_of Tryz.func45 (by kernel_rfl) rfl) (hI _ (by first | exact Below.refl _ _ | exact Below.drew (Below.refl _ _))) ?_; rintro e w2 ⟨a2, cap2, rfl, hr2, hb2'⟩; refine ⟨_, rfl, ?_⟩; have hb2 : Below W.heap.size W w2 := (by first | exact hb2' | exact (Below.drew (Below.refl _ _)).trans hb2'); clear hb2'; have hS2 := hS.below hb2; have hc2 := hS2.box.cell; have hcA := fun o => (hS2.box.alloc o).cell; have hf2 := hS2.box.frozen)
    | (refine step_append_lies _ rfl _ _ 193 rfl base 195 i0 (.agg #[.nilIface, .slice none 0 0]) 2 40 Tryz.underlying193 hi hz0 hz1 hz2 rfl (by decide) sv s.length us rfl (hS2.row.alloc _) ⟨w2.heap.size, 0, none⟩ 1 1 [_, .slice a2 (nkids d).length cap2] rfl rfl (cell_two_new _ _ _ _) (hone _ _ _) (by decide) hm1 hm2 (by simp; have := hb2.size; omega) _ rfl ?_; intro g' cap' w3 hown' hgrow hat _; obtain ⟨hS3, hS4, hO4, hd4⟩ := hPush w2 w3 a2 cap2 _ hb2 hr2 hown' hgrow (hat.elim (fun h => .inl h.symm) (fun h => .inr (by rw [h]; rfl))); have hc3 := hS3.cell; have hf3 := hS3.frozen))
   all_goals go_wp2_with fail
   all_goals gi_meet
   all_goals exact ⟨_, _, hJ _ _ _ _ h0 hO4, hS4, hO4, hd4⟩
  case rest =>
   obtain ⟨sv', us', hJ1, hS1, hO1, hd1⟩ := hcut
   have hC1 : ∀ k, C k → k < wc.heap.size := fun k hk => Nat.lt_of_lt_of_le (hC k hk) hO1.size
   have hcC := hS1.cC
   have hy1 := hS1.yld.cell
   have hf1 := hS1.yld.frozen
   obtain ⟨fn, tmps, assign, body, hy, hR⟩ := yield_any_depth (n - 1) (hR pre (d, true) #[_, .bool true] C wc hJ1 ⟨_, rfl, ⟨evss (nkids d) ++ ((d, false) :: rem s), by rw [← hp, evs_kids]; simp⟩, ndx_lies hd1⟩)
   gi_wp2
   refine ⟨hdep _, hR.mono ?_⟩
   rintro e Z (⟨rfl, C', hJ2, hr⟩ | ⟨rfl, hx, _⟩)
   ·gi_wp2
    go_ret
    have hcC' : ∀ k, C' k → base ≤ k := fun k hk => (hr.new k hk).elim (hcC k) (fun h => by have := hO1.size; omega)
    exact ⟨true, rfl, fun _ => ⟨C', sv', us', hJ2, hS1.round hr hcC', fun k hk => (hr.new k hk).elim (fun h => Nat.lt_of_lt_of_le (hC1 k h) hr.size) (fun h => h.2)⟩, fun h => absurd h (by decide)⟩
   ·gi_wp2
    go_ret
    exact ⟨false, rfl, fun h => absurd h (by decide), fun _ => hx⟩
set_option linter.unusedSimpArgs false in
set_option maxRecDepth 100000 in
set_option maxHeartbeats 4000000 in
theorem iter_any (n l base n₀ R : Nat) (root : Nd) (hsz : nsize root ≤ 4000000) (J : List (Nd × Bool) → (Nat → Prop) → World → Prop) (Jx : World → Prop)
  (hJ : ∀ pre C X Y, J pre C X → Other base C X Y → J pre C Y) (hJx : ∀ X Y, Jx X → Other base (fun _ => False) X Y → Jx Y)
  (hR : ∀ pre x args C X, J pre C X → NdOk n₀ root pre x args C base X → YieldAt Fence.wide 0 Tryz.prog l args X fun e Y =>
   (e = .returned (.bool true) ∧ ∃ C', J (pre ++ [x]) C' Y ∧ Rdn n₀ base C C' X Y) ∨ (e = .returned (.bool false) ∧ Jx Y ∧ Rdn n₀ base C C X Y))
  (W : World) (v : Value) (hb : base = W.heap.size) (hn : n₀ ≤ base) (h0 : J [] (fun _ => False) W) (hv : NdX (fun k => k < n₀) W root v) (hc : W.cell? ⟨R, 0, none⟩ = some v) :
  CallsIn Fence.wide n Tryz.prog 100 #[.func (.yield l) #[] #[], .pointer (some ⟨R, 0, none⟩)] W fun e Z => (∃ v, e = .returned v) ∧ ((∃ C, J (evs root) C Z) ∨ Jx Z) := by
 have hdep : ∀ k : Nat, (Fence.wide.depth.isSome = true → 1 ≤ k) := fun k h => by simp [Fence.wide] at h
 refine callsIn_of_wp Tryz.func100 rfl trivial ?_ rfl
 simp only [Tryz.ntmps100, List.size_toArray, List.length_cons, List.length_nil, Nat.reduceAdd, Nat.reduceSub, Array.replicate_succ, Array.replicate_zero, List.push_toArray, List.append_toArray, List.nil_append, List.cons_append]
 obtain ⟨W0, hW0⟩ : ∃ W0, (W.alloc (.cells #[.func (.yield l) #[] #[]] 192)).alloc (.cells #[.slice none 0 0] 193) = W0 := ⟨_, rfl⟩
 have hB0 : Below W.heap.size W W0 := by rw [← hW0]; exact ((Below.refl _ W).alloc (Nat.le_refl _) _).alloc (by simp) _
 have hRlt : R < W.heap.size := World.block_lt_of_cell? W _ hc
 have hcR : W0.cell? ⟨R, 0, none⟩ = some v := (hB0.cell (p := ⟨R, 0, none⟩) hRlt).trans hc
 have hS0 : Stk n₀ base (W.heap.size + 1) W.heap.size l (fun _ => False) W0 [] (.slice none 0 0) [] := by
  have hY := Boxed.new W 192 (.func (.yield l) #[] #[])
  have hS := Boxed.new (W.alloc (.cells #[.func (.yield l) #[] #[]] 192)) 193 (.slice none 0 0)
  rw [World.size_alloc, hW0] at hS
  have hY2 := hY.alloc (.cells #[.slice none 0 0] 193)
  rw [hW0] at hY2
  exact ⟨hS, hY2, by omega, by omega, hn, fun h => h, fun h => h, fun k h => h.elim, World.ownsRow_nil _ _ _ _, fun g h => by simp [Value.ownBlock] at h, rfl⟩
 have hJ0 : J [] (fun _ => False) W0 := hJ _ _ _ _ h0 (Other.of_below hB0)
 have hbeg := begin_any (n - 1) l base n₀ (W.heap.size + 1) W.heap.size root hsz J Jx hJ hR [] (fun _ => False) W0 [] (.slice none 0 0) [] root v hS0 hJ0
  ((hv.below hB0).keep (Nat.le_refl _) (fun b hb _ => ⟨.inl hb, fun _ => rfl⟩)) (by simp [rem]) (fun k h => h.elim)
 gi_wp2_with (refine ⟨trivial, hdep _, ?_⟩; gi_at_call 101; refine hbeg.mono ?_; clear hbeg; rintro e Z1 ⟨b1, rfl, hg1⟩)
 clear hS0 hJ0 hcR hB0 hc hv h0
 gi_loopg [5] (2 * nsize root) (fun k go wr => ∃ b, go = .bool b ∧ (b = true → ∃ pre C s sv us, J pre C wr ∧ Stk n₀ base (W.heap.size + 1) W.heap.size l C wr s sv us ∧ pre ++ rem s = evs root ∧ (∀ k, C k → k < wr.heap.size) ∧ (rem s).length + 1 ≤ k) ∧ (b = false → Jx wr))
 case atStart =>
  refine ⟨b1, rfl, fun h => ?_, hg1.2⟩
  obtain ⟨C1, sv1, us1, hJ1, hS1, hC1⟩ := hg1.1 h
  have hr : evs root = (root, true) :: rem [(root, nkids root)] := by rw [evs_kids]; simp [rem]
  refine ⟨_, C1, _, sv1, us1, hJ1, hS1, by rw [hr]; rfl, hC1, ?_⟩
  have := evs_len root
  rw [hr] at this
  simp at this
  simp
  omega
 case round =>
  obtain ⟨b, rfl, ht, hf⟩ := hrel
  cases b with
  | false =>
   have hx := hf rfl
   clear ht hf
   gi_wp2
   go_end0
   exact ⟨⟨_, rfl⟩, .inr hx⟩
  | true =>
   obtain ⟨pre, C, s, sv, us, hJ1, hS1, hp, hC, hk⟩ := ht rfl
   clear ht hf hg1
   rcases List.eq_nil_or_concat s with rfl | ⟨s, ⟨d, r⟩, rfl⟩
   ·obtain ⟨a, c, rfl⟩ : ∃ a c, sv = .slice a 0 c := by
     rcases hS1.row.2 with ⟨e, _⟩ | ⟨g, cap, cur, e, _⟩
     ·exact ⟨_, _, e⟩
     ·exact ⟨_, _, e⟩
    have hc1 := hS1.box.cell
    gi_wp2
    go_end0
    exact ⟨⟨_, rfl⟩, .inl ⟨C, by rw [← hp]; simpa [rem] using hJ1⟩⟩
   ·rw [List.concat_eq_append] at hS1 hp hk
    have hlen : s.length + 1 ≤ 8000000 := by
     have h1 := evs_len root
     have h2 := rem_len (s ++ [(d, r)])
     have h3 := congrArg List.length hp
     simp at h2 h3
     omega
    obtain ⟨g, cap, us', v2, a2, cap2, rfl, _, hul, q0, q1, qf, hd2, hr2⟩ := hS1.top
    have hc1 := hS1.box.cell
    have hf1 := hS1.box.frozen
    have hbw : base ≤ wr.heap.size := by have := hS1.bS; have := hS1.lS; omega
    have Wn : IntKind.i64.wrap ((s.length : Int) + 1 - 1) = (s.length : Int) := by rw [IntWalk.i64_in _ (by omega)]; omega
    cases r with
    | nil =>
     have hp2 : (pre ++ [(d, false)]) ++ rem s = evs root := by rw [← hp, rem_snoc]; simp [evss]
     have hk2 : (rem s).length + 1 < gk := by rw [rem_snoc] at hk; simp [evss] at hk; omega
     obtain ⟨fn, tmps, assign, body, hy, hR2⟩ := yield_any_depth (n - 1) (hR pre (d, false) #[v2, .bool false] C wr.drew (hJ _ _ _ _ hJ1 (Other.drew (Other.refl _ _ _))) ⟨_, rfl, ⟨rem s, by rw [← hp2]; simp⟩, (ndx_lies hd2).drew⟩)
     have hyd := hS1.yld.cell
     have hR3 := hR2.mono (R' := fun e Z => ∃ b, e = .returned (.bool b) ∧ ∃ C', (b = true → J (pre ++ [(d, false)]) C' Z) ∧ (b = false → Jx Z ∧ C' = C) ∧ Rdn n₀ base C C' wr.drew Z) (fun e Z h => h.elim (fun ⟨he, C', h1, h2⟩ => ⟨true, he, C', fun _ => h1, fun h => absurd h (by decide), h2⟩) (fun ⟨he, h1, h2⟩ => ⟨false, he, C, fun h => absurd h (by decide), fun _ => ⟨h1, rfl⟩, h2⟩))
     clear hR2 hd2 hr2
     have hcC := hS1.cC
     have hmix : Tryz.prog.follows .mixedOrders = true := by kernel_rfl
     gi_upto_region 10 with fail
     gi_cut [5] from 12 (fun x wx => ∃ b, x = .bool b ∧ ∃ C', (b = true → J (pre ++ [(d, false)]) C' wx) ∧ (b = false → Jx wx) ∧ Stk n₀ base (W.heap.size + 1) W.heap.size l C' wx (s ++ [(d, [])]) (.slice (some ⟨g, 0, none⟩) (s.length + 1) cap) us ∧ ∀ k, C' k → k < wx.heap.size)
     case first =>
      gi_region_with_o (refine ⟨hdep _, hR3.mono ?_⟩; rintro e Z ⟨b, rfl, C', h1, h2, hr⟩)
      all_goals gi_wp2
      all_goals gi_meet
      all_goals exact ⟨b, rfl, C', h1, fun h => (h2 h).1, (hS1.below (Below.drew (Below.refl _ _))).round hr (fun k hk => Or.elim (hr.new k hk) (hcC k) (fun h => Nat.le_trans hbw h.1)), fun k hk => Or.elim (hr.new k hk) (fun h => Nat.lt_of_lt_of_le (hC k h) hr.size) (fun h => h.2)⟩
     case rest =>
      obtain ⟨b, rfl, C', h1, h2, hS3, hC3⟩ := hcut
      obtain ⟨us3, hS4, hO4⟩ := hS3.pop
      have hc3 := hS3.box.cell
      have hf3 := hS3.box.frozen
      have hcp : s.length + 1 ≤ cap := by
       exact row_cap hS3.row
      have hcp2 : (s.length : Int) ≤ (cap : Int) := by omega
      have hcp3 : ¬ cap = 0 := by omega
      gi_wp2
      gi_roundg ((rem s).length + 1)
      case measure => exact hk2
      case rel => exact ⟨b, rfl, fun h => ⟨_, C', s, _, us3, hJ _ _ _ _ (h1 h) hO4, hS4, hp2, fun k hk => Nat.lt_of_lt_of_le (hC3 k hk) hO4.size, Nat.le_refl _⟩, fun h => hJx _ _ (h2 h) hO4.none⟩
    | cons c r' =>
     obtain ⟨b2, o2, u, rfl, hfb, hlt, hcap, hu, hdu, htl⟩ := hr2.tail
     obtain ⟨a4, cap4, htl4, hcase⟩ : ∃ a4 cap4, NdRw (Lies n₀ base C (W.heap.size + 1) (.slice (some ⟨g, 0, none⟩) (s.length + 1) cap)) wr r' a4 cap4 ∧ ((cap2 = 1 ∧ a4 = some ⟨b2, o2, none⟩ ∧ cap4 = 0 ∧ r' = []) ∨ (1 < cap2 ∧ a4 = some ⟨b2, o2 + 1, none⟩ ∧ cap4 = cap2 - 1)) := by
      rcases Nat.eq_or_lt_of_le hcap with h1 | h1
      ·have h2 := hr2.1
       simp at h2
       have h3 : r' = [] := List.eq_nil_of_length_eq_zero (by omega)
       subst h3
       exact ⟨_, _, NdRw.nil _ _ _ _ (by decide), .inl ⟨h1.symm, rfl, rfl, rfl⟩⟩
      ·exact ⟨_, _, htl, .inr ⟨h1, rfl, rfl⟩⟩
     have hr2c := hr2.1
     simp at hr2c
     clear htl hr2
     obtain ⟨us2, hS2, hO2⟩ := hS1.shift htl4
     have hp2 : pre ++ (evs c ++ rem (s ++ [(d, r')])) = evs root := by rw [← hp, rem_snoc, rem_snoc]; simp [evss]
     have hk2 : (rem (s ++ [(d, r')])).length + (evs c).length < gk := by
      have h1 := congrArg List.length (evs_kids c)
      rw [rem_snoc] at hk
      rw [rem_snoc]
      simp [evss] at hk h1 ⊢
      omega
     have hl2 := congrArg List.length (evs_kids c)
     simp at hl2
     obtain ⟨mz, hmz⟩ : ∃ mz, mz = (rem (s ++ [(d, r')])).length + (evs c).length := ⟨_, rfl⟩
     rw [← hmz] at hk2
     have hrem : (rem ((s ++ [(d, r')]) ++ [(c, nkids c)])).length + 1 ≤ mz := by rw [rem_snoc]; simp; omega
     clear hmz hl2
     have hbeg := begin_any (n - 1) l base n₀ (W.heap.size + 1) W.heap.size root hsz J Jx hJ hR pre C _ _ _ us2 c u hS2 (hJ _ _ _ _ hJ1 hO2)
      (hdu.keep hO2.size (fun k hk hlt => ⟨hk, fun o => World.cell?_of_block (w := wr) (a := ⟨k, o, none⟩) (Below.heap_setCell _ _ _ _ (stk_apart hS1 hk))⟩)) hp2 (fun k hk => Nat.lt_of_lt_of_le (hC k hk) hO2.size)
     clear hS1 hS2 hdu htl4 hd2
     rcases hcase with ⟨rfl, rfl, rfl, rfl⟩ | ⟨hc1, rfl, rfl⟩
     all_goals
      gi_wp2_with (refine ⟨trivial, hdep _, ?_⟩; gi_at_call 101; refine hbeg.mono ?_; clear hbeg; rintro e Z ⟨b, rfl, h1, h2⟩)
      gi_roundg mz
      case measure => exact hk2
      case rel =>
       refine ⟨b, rfl, fun h => ?_, h2⟩
       obtain ⟨C', sv', us', g1, g2, g3⟩ := h1 h
       exact ⟨_, C', _, sv', us', g1, g2, by rw [← hp2, evs_kids, rem_snoc, rem_snoc]; simp, g3, hrem⟩
end Go.Proofs.YtbgfankoojjejaaGreatDoor
namespace Go.Proofs.YtbgfankoojjejaaGreatDoor
open Go Go.RowKit
theorem walk_any (v : Value) (w : World) (hsh : (∃ T q, v = .iface T q) ∨ v = .nilIface) : Calls Tryz.prog 82 #[v] w fun e w' => e = .returned (.func (.func 100) #[] #[.pointer (some ⟨w.heap.size, 0, none⟩)]) ∧ w' = w.alloc (.cells #[v] 26) := by
 rcases hsh with ⟨T, q, rfl⟩ | rfl
 all_goals
  go_enter Tryz.func82, Tryz.ntmps82
  go_wp2_with fail
  go_ret
  exact ⟨rfl, rfl⟩
theorem walk_gives (root : Nd) (hsz : nsize root ≤ 4000000) (n₀ R : Nat) (v : Value) (w : World) (hn : n₀ ≤ w.heap.size) (hc : w.cell? ⟨R, 0, none⟩ = some v) (hv : NdX (fun k => k < n₀) w root v) :
  Gives Tryz.prog 100 #[.pointer (some ⟨R, 0, none⟩)] n₀ (NdOk n₀ root) (fun xs => xs = evs root) w := by
 intro l m J Jx W hb hJ hJx hR h0
 refine callsIn_wide.1 ((iter_any 0 l W.heap.size n₀ R root hsz J Jx hJ hJx (fun pre x args C X h1 h2 => yield_any_depth 0 (hR pre x args C X h1 h2)) W v rfl (Nat.le_trans hn hb.size) h0 (hv.below hb) ((hb.cell (p := ⟨R, 0, none⟩) (World.block_lt_of_cell? w _ hc)).trans hc)).mono ?_)
 rintro e Y ⟨h1, h2⟩
 refine ⟨h1, h2.elim (fun ⟨C, h⟩ => .inl ⟨_, C, rfl, h⟩) .inr⟩
theorem nd_ok_put {n₀ : Nat} {root : Nd} {pre : List (Nd × Bool)} {x : Nd × Bool} {args : Array Value} {C : Nat → Prop} {base k : Nat} {W : World} {o : Obj} (h : NdOk n₀ root pre x args C base W) (h1 : n₀ ≤ k) (h2 : k < base) : NdOk n₀ root pre x args C base (W.putObj k o) := by
 obtain ⟨v, ha, hs, hv⟩ := h
 refine ⟨v, ha, hs, hv.keep (by simp) (fun b hb _ => ⟨hb, fun p => World.cell?_of_block (w := W) (a := ⟨b, p, none⟩) (World.putObj_heap_other ?_)⟩)⟩
 show b ≠ k
 rcases hb with hb | hb
 ·omega
 ·omega
end Go.Proofs.YtbgfankoojjejaaGreatDoor
