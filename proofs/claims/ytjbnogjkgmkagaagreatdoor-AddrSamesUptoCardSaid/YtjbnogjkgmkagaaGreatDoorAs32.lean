/- The proof's texts AdOw: what the claim reaches of them. -/
import Derived.Test.YtjbnogjkgmkagaaGreatDoorAs31
import Derived.Test.YtjbnogjkgmkagaaGreatDoorAs03
namespace Go.Proofs.YtjbnogjkgmkagaaGreatDoor
open Go Go.RowKit
theorem trd7' {n : Nat} {w : World} {t : Tr} {a : Option Addr} {cap : Nat} (h : TrAt n w t a cap) : ∃ N, TrD N w t a cap := ⟨2 * n + 1, n, h, by have := kb_le t; omega⟩
theorem trd_up {N M : Nat} {w : World} {t : Tr} {a : Option Addr} {cap : Nat} (h : N ≤ M) (k : TrD N w t a cap) : TrD M w t a cap := by
 obtain ⟨n, h1, h2⟩ := k
 exact ⟨n, h1, by omega⟩
def fewB (k : Int) (t : Tr) (s : ByteArray) : Bool := decide (0 ≤ k) && (decide (k ≤ 4) && ((decide (tall t ≤ 60) && tknown t) && decide (s.size ≤ 300)))
theorem fewB_yes {k : Int} {t : Tr} {s : ByteArray} (h : fewB k t s = true) : (0 ≤ k ∧ k ≤ 4) ∧ tknown t = true ∧ s.size ≤ 300 := by
 unfold fewB at h
 simp only [Bool.and_eq_true, decide_eq_true_eq] at h
 exact ⟨⟨h.1, h.2.1⟩, h.2.2.1.2, h.2.2.2⟩
set_option linter.unusedVariables false in
set_option linter.unusedSimpArgs false in
set_option maxRecDepth 100000 in
set_option maxHeartbeats 16000000 in
theorem adsames_any (na nb nc nd : Nat) (ka la : Int) (sa : ByteArray) (ta : Tr) (aa : Option Addr) (ca : Nat) (kb lb : Int) (sb : ByteArray) (tb : Tr) (ab : Option Addr) (cb : Nat) (n1 : Bool) (kc lc : Int) (sc : ByteArray) (tc : Tr) (ac : Option Addr) (cc : Nat) (kd ld : Int) (sd : ByteArray) (td : Tr) (ad : Option Addr) (cd : Nat) (n2 : Bool) (w : World)
  (h1 : TrAt na w ta aa ca) (h2 : TrAt nb w tb ab cb) (h3 : TrAt nc w tc ac cc) (h4 : TrAt nd w td ad cd) (g1 : tall ta ≤ 1048576) (g2 : tall tb ≤ 1048576) (g3 : tall tc ≤ 1048576) (g4 : tall td ≤ 1048576) (hG : Gl w) (hP : GP w) :
  Calls Tryz.prog 3 #[.agg (dgA ka la sa ta aa ca kb lb sb tb ab cb n1), .agg (dgA kc lc sc tc ac cc kd ld sd td ad cd n2)] w fun e w' => e = .returned (.bool true) ∧ Below w.heap.size w w' := by
 have hmix : Tryz.prog.follows .mixedOrders = true := by kernel_rfl
 obtain ⟨W1, hW1⟩ : ∃ W1, w.alloc (.cells (dgA ka la sa ta aa ca kb lb sb tb ab cb n1) 31) = W1 := ⟨_, rfl⟩
 have hX := blkOfAlloc hW1
 have hb1 := belowOfAlloc hW1
 obtain ⟨W2, hW2⟩ : ∃ W2, W1.alloc (.cells (dgA kc lc sc tc ac cc kd ld sd td ad cd n2) 31) = W2 := ⟨_, rfl⟩
 have hY := blkOfAlloc hW2
 have hX2 := hX.below (belowOfAlloc hW2) hX.lt
 have hb2 := hb1.trans ((belowOfAlloc hW2).mono hb1.size)
 obtain ⟨p, hp⟩ : ∃ p, W1.heap.size = p := ⟨_, rfl⟩
 have hwp : w.heap.size ≠ p := by rw [← hp]; exact Nat.ne_of_lt hX.lt
 rw [hp] at hY
 have H := Lib.hid (show SmH w w.heap.size p _ _ W2 from ⟨hb2, hX2, hY⟩)
 have hA := fun W (h : SmH w w.heap.size p (dgA ka la sa ta aa ca kb lb sb tb ab cb n1) (dgA kc lc sc tc ac cc kd ld sd td ad cd n2) W) => awake12_any W (hG.up h.b) (hP.up h.b)
 have hF1 := fun W (h : SmH w w.heap.size p (dgA ka la sa ta aa ca kb lb sb tb ab cb n1) (dgA kc lc sc tc ac cc kd ld sd td ad cd n2) W) => dfew_any na ka la sa ta aa ca W (TrAt.below h.b _ _ _ _ h1) (by omega)
 have hF2 := fun W (h : SmH w w.heap.size p (dgA ka la sa ta aa ca kb lb sb tb ab cb n1) (dgA kc lc sc tc ac cc kd ld sd td ad cd n2) W) => dfew_any nb kb lb sb tb ab cb W (TrAt.below h.b _ _ _ _ h2) (by omega)
 have hF3 := fun W (h : SmH w w.heap.size p (dgA ka la sa ta aa ca kb lb sb tb ab cb n1) (dgA kc lc sc tc ac cc kd ld sd td ad cd n2) W) => dfew_any nc kc lc sc tc ac cc W (TrAt.below h.b _ _ _ _ h3) (by omega)
 have hF4 := fun W (h : SmH w w.heap.size p (dgA ka la sa ta aa ca kb lb sb tb ab cb n1) (dgA kc lc sc tc ac cc kd ld sd td ad cd n2) W) => dfew_any nd kd ld sd td ad cd W (TrAt.below h.b _ _ _ _ h4) (by omega)
 rw [show (decide (0 ≤ ka) && (decide (ka ≤ 4) && ((decide (tall ta ≤ 60) && tknown ta) && decide (sa.size ≤ 300)))) = fewB ka ta sa from rfl] at hF1
 obtain ⟨f1, hf1⟩ : ∃ f, fewB ka ta sa = f := ⟨_, rfl⟩
 rw [hf1] at hF1
 rw [show (decide (0 ≤ kb) && (decide (kb ≤ 4) && ((decide (tall tb ≤ 60) && tknown tb) && decide (sb.size ≤ 300)))) = fewB kb tb sb from rfl] at hF2
 obtain ⟨f2, hf2⟩ : ∃ f, fewB kb tb sb = f := ⟨_, rfl⟩
 rw [hf2] at hF2
 rw [show (decide (0 ≤ kc) && (decide (kc ≤ 4) && ((decide (tall tc ≤ 60) && tknown tc) && decide (sc.size ≤ 300)))) = fewB kc tc sc from rfl] at hF3
 obtain ⟨f3, hf3⟩ : ∃ f, fewB kc tc sc = f := ⟨_, rfl⟩
 rw [hf3] at hF3
 rw [show (decide (0 ≤ kd) && (decide (kd ≤ 4) && ((decide (tall td ≤ 60) && tknown td) && decide (sd.size ≤ 300)))) = fewB kd td sd from rfl] at hF4
 obtain ⟨f4, hf4⟩ : ∃ f, fewB kd td sd = f := ⟨_, rfl⟩
 rw [hf4] at hF4
 unfold daA at hF1 hF2 hF3 hF4
 unfold dgA at hA hF1 hF2 hF3 hF4 H hW1 hW2 ⊢
 obtain ⟨⟨x0, x1, x2, x3, x4, x5, x6, x7, x8, x9, x10, x11, x12, x13, x14, x15, x16, x17, x18, x19, x20, x21, x22, x23, x24⟩, hxl⟩ := blk25v H.out.x
 obtain ⟨⟨y0, y1, y2, y3, y4, y5, y6, y7, y8, y9, y10, y11, y12, y13, y14, y15, y16, y17, y18, y19, y20, y21, y22, y23, y24⟩, hyl⟩ := blk25v H.out.y
 obtain ⟨N1, e1⟩ := trd7' h1
 obtain ⟨N2, e2⟩ := trd7' h2
 obtain ⟨N3, e3⟩ := trd7' h3
 obtain ⟨N4, e4⟩ := trd7' h4
 have HD := Lib.hid (And.intro e1 (And.intro e2 (And.intro e3 e4)))
 have HZ := Lib.hid (And.intro g1 (And.intro g2 (And.intro g3 g4)))
 have Hf := Lib.hid (And.intro hf1 (And.intro hf2 (And.intro hf3 hf4)))
 clear hX hX2 hY hb1 hb2 hG hP h1 h2 h3 h4 g1 g2 g3 g4 hf1 hf2 hf3 hf4 e1 e2 e3 e4
 cases f1
 ·go_enter Tryz.func3, Tryz.ntmps3
  go_wp2_with (first | (go_at_call 10; refine (hA _ H.out).mono ?_; rintro e w1 ⟨rfl, b1⟩; replace H := Lib.hid (H.out.step b1); clear b1 x0 x1 x2 x3 x4 x5 x6 x7 x8 x9 x10 x11 x12 x13 x14 x15 x16 x17 x18 x19 x20 x21 x22 x23 x24 hxl y0 y1 y2 y3 y4 y5 y6 y7 y8 y9 y10 y11 y12 y13 y14 y15 y16 y17 y18 y19 y20 y21 y22 y23 y24 hyl; obtain ⟨⟨x0, x1, x2, x3, x4, x5, x6, x7, x8, x9, x10, x11, x12, x13, x14, x15, x16, x17, x18, x19, x20, x21, x22, x23, x24⟩, hxl⟩ := blk25v H.out.x; obtain ⟨⟨y0, y1, y2, y3, y4, y5, y6, y7, y8, y9, y10, y11, y12, y13, y14, y15, y16, y17, y18, y19, y20, y21, y22, y23, y24⟩, hyl⟩ := blk25v H.out.y) | (go_at_call 11; (first | (with_reducible refine (hF1 _ H.out).mono ?_) | (with_reducible refine (hF2 _ H.out).mono ?_) | (with_reducible refine (hF3 _ H.out).mono ?_) | (with_reducible refine (hF4 _ H.out).mono ?_)); rintro e w1 ⟨rfl, b1⟩; replace H := Lib.hid (H.out.step b1); clear b1 x0 x1 x2 x3 x4 x5 x6 x7 x8 x9 x10 x11 x12 x13 x14 x15 x16 x17 x18 x19 x20 x21 x22 x23 x24 hxl y0 y1 y2 y3 y4 y5 y6 y7 y8 y9 y10 y11 y12 y13 y14 y15 y16 y17 y18 y19 y20 y21 y22 y23 y24 hyl; obtain ⟨⟨x0, x1, x2, x3, x4, x5, x6, x7, x8, x9, x10, x11, x12, x13, x14, x15, x16, x17, x18, x19, x20, x21, x22, x23, x24⟩, hxl⟩ := blk25v H.out.x; obtain ⟨⟨y0, y1, y2, y3, y4, y5, y6, y7, y8, y9, y10, y11, y12, y13, y14, y15, y16, y17, y18, y19, y20, y21, y22, y23, y24⟩, hyl⟩ := blk25v H.out.y))
  go_ret
  exact ⟨rfl, H.out.b⟩
 cases f2
 ·go_enter Tryz.func3, Tryz.ntmps3
  go_wp2_with (first | (go_at_call 10; refine (hA _ H.out).mono ?_; rintro e w1 ⟨rfl, b1⟩; replace H := Lib.hid (H.out.step b1); clear b1 x0 x1 x2 x3 x4 x5 x6 x7 x8 x9 x10 x11 x12 x13 x14 x15 x16 x17 x18 x19 x20 x21 x22 x23 x24 hxl y0 y1 y2 y3 y4 y5 y6 y7 y8 y9 y10 y11 y12 y13 y14 y15 y16 y17 y18 y19 y20 y21 y22 y23 y24 hyl; obtain ⟨⟨x0, x1, x2, x3, x4, x5, x6, x7, x8, x9, x10, x11, x12, x13, x14, x15, x16, x17, x18, x19, x20, x21, x22, x23, x24⟩, hxl⟩ := blk25v H.out.x; obtain ⟨⟨y0, y1, y2, y3, y4, y5, y6, y7, y8, y9, y10, y11, y12, y13, y14, y15, y16, y17, y18, y19, y20, y21, y22, y23, y24⟩, hyl⟩ := blk25v H.out.y) | (go_at_call 11; (first | (with_reducible refine (hF1 _ H.out).mono ?_) | (with_reducible refine (hF2 _ H.out).mono ?_) | (with_reducible refine (hF3 _ H.out).mono ?_) | (with_reducible refine (hF4 _ H.out).mono ?_)); rintro e w1 ⟨rfl, b1⟩; replace H := Lib.hid (H.out.step b1); clear b1 x0 x1 x2 x3 x4 x5 x6 x7 x8 x9 x10 x11 x12 x13 x14 x15 x16 x17 x18 x19 x20 x21 x22 x23 x24 hxl y0 y1 y2 y3 y4 y5 y6 y7 y8 y9 y10 y11 y12 y13 y14 y15 y16 y17 y18 y19 y20 y21 y22 y23 y24 hyl; obtain ⟨⟨x0, x1, x2, x3, x4, x5, x6, x7, x8, x9, x10, x11, x12, x13, x14, x15, x16, x17, x18, x19, x20, x21, x22, x23, x24⟩, hxl⟩ := blk25v H.out.x; obtain ⟨⟨y0, y1, y2, y3, y4, y5, y6, y7, y8, y9, y10, y11, y12, y13, y14, y15, y16, y17, y18, y19, y20, y21, y22, y23, y24⟩, hyl⟩ := blk25v H.out.y))
  go_ret
  exact ⟨rfl, H.out.b⟩
 cases f3
 ·go_enter Tryz.func3, Tryz.ntmps3
  go_wp2_with (first | (go_at_call 10; refine (hA _ H.out).mono ?_; rintro e w1 ⟨rfl, b1⟩; replace H := Lib.hid (H.out.step b1); clear b1 x0 x1 x2 x3 x4 x5 x6 x7 x8 x9 x10 x11 x12 x13 x14 x15 x16 x17 x18 x19 x20 x21 x22 x23 x24 hxl y0 y1 y2 y3 y4 y5 y6 y7 y8 y9 y10 y11 y12 y13 y14 y15 y16 y17 y18 y19 y20 y21 y22 y23 y24 hyl; obtain ⟨⟨x0, x1, x2, x3, x4, x5, x6, x7, x8, x9, x10, x11, x12, x13, x14, x15, x16, x17, x18, x19, x20, x21, x22, x23, x24⟩, hxl⟩ := blk25v H.out.x; obtain ⟨⟨y0, y1, y2, y3, y4, y5, y6, y7, y8, y9, y10, y11, y12, y13, y14, y15, y16, y17, y18, y19, y20, y21, y22, y23, y24⟩, hyl⟩ := blk25v H.out.y) | (go_at_call 11; (first | (with_reducible refine (hF1 _ H.out).mono ?_) | (with_reducible refine (hF2 _ H.out).mono ?_) | (with_reducible refine (hF3 _ H.out).mono ?_) | (with_reducible refine (hF4 _ H.out).mono ?_)); rintro e w1 ⟨rfl, b1⟩; replace H := Lib.hid (H.out.step b1); clear b1 x0 x1 x2 x3 x4 x5 x6 x7 x8 x9 x10 x11 x12 x13 x14 x15 x16 x17 x18 x19 x20 x21 x22 x23 x24 hxl y0 y1 y2 y3 y4 y5 y6 y7 y8 y9 y10 y11 y12 y13 y14 y15 y16 y17 y18 y19 y20 y21 y22 y23 y24 hyl; obtain ⟨⟨x0, x1, x2, x3, x4, x5, x6, x7, x8, x9, x10, x11, x12, x13, x14, x15, x16, x17, x18, x19, x20, x21, x22, x23, x24⟩, hxl⟩ := blk25v H.out.x; obtain ⟨⟨y0, y1, y2, y3, y4, y5, y6, y7, y8, y9, y10, y11, y12, y13, y14, y15, y16, y17, y18, y19, y20, y21, y22, y23, y24⟩, hyl⟩ := blk25v H.out.y))
  go_ret
  exact ⟨rfl, H.out.b⟩
 cases f4
 ·go_enter Tryz.func3, Tryz.ntmps3
  go_wp2_with (first | (go_at_call 10; refine (hA _ H.out).mono ?_; rintro e w1 ⟨rfl, b1⟩; replace H := Lib.hid (H.out.step b1); clear b1 x0 x1 x2 x3 x4 x5 x6 x7 x8 x9 x10 x11 x12 x13 x14 x15 x16 x17 x18 x19 x20 x21 x22 x23 x24 hxl y0 y1 y2 y3 y4 y5 y6 y7 y8 y9 y10 y11 y12 y13 y14 y15 y16 y17 y18 y19 y20 y21 y22 y23 y24 hyl; obtain ⟨⟨x0, x1, x2, x3, x4, x5, x6, x7, x8, x9, x10, x11, x12, x13, x14, x15, x16, x17, x18, x19, x20, x21, x22, x23, x24⟩, hxl⟩ := blk25v H.out.x; obtain ⟨⟨y0, y1, y2, y3, y4, y5, y6, y7, y8, y9, y10, y11, y12, y13, y14, y15, y16, y17, y18, y19, y20, y21, y22, y23, y24⟩, hyl⟩ := blk25v H.out.y) | (go_at_call 11; (first | (with_reducible refine (hF1 _ H.out).mono ?_) | (with_reducible refine (hF2 _ H.out).mono ?_) | (with_reducible refine (hF3 _ H.out).mono ?_) | (with_reducible refine (hF4 _ H.out).mono ?_)); rintro e w1 ⟨rfl, b1⟩; replace H := Lib.hid (H.out.step b1); clear b1 x0 x1 x2 x3 x4 x5 x6 x7 x8 x9 x10 x11 x12 x13 x14 x15 x16 x17 x18 x19 x20 x21 x22 x23 x24 hxl y0 y1 y2 y3 y4 y5 y6 y7 y8 y9 y10 y11 y12 y13 y14 y15 y16 y17 y18 y19 y20 y21 y22 y23 y24 hyl; obtain ⟨⟨x0, x1, x2, x3, x4, x5, x6, x7, x8, x9, x10, x11, x12, x13, x14, x15, x16, x17, x18, x19, x20, x21, x22, x23, x24⟩, hxl⟩ := blk25v H.out.x; obtain ⟨⟨y0, y1, y2, y3, y4, y5, y6, y7, y8, y9, y10, y11, y12, y13, y14, y15, y16, y17, y18, y19, y20, y21, y22, y23, y24⟩, hyl⟩ := blk25v H.out.y))
  go_ret
  exact ⟨rfl, H.out.b⟩
 go_enter Tryz.func3, Tryz.ntmps3
 go_upto_region 3 with (first | (go_at_call 10; refine (hA _ H.out).mono ?_; rintro e w1 ⟨rfl, b1⟩; replace H := Lib.hid (H.out.step b1); clear b1 x0 x1 x2 x3 x4 x5 x6 x7 x8 x9 x10 x11 x12 x13 x14 x15 x16 x17 x18 x19 x20 x21 x22 x23 x24 hxl y0 y1 y2 y3 y4 y5 y6 y7 y8 y9 y10 y11 y12 y13 y14 y15 y16 y17 y18 y19 y20 y21 y22 y23 y24 hyl; obtain ⟨⟨x0, x1, x2, x3, x4, x5, x6, x7, x8, x9, x10, x11, x12, x13, x14, x15, x16, x17, x18, x19, x20, x21, x22, x23, x24⟩, hxl⟩ := blk25v H.out.x; obtain ⟨⟨y0, y1, y2, y3, y4, y5, y6, y7, y8, y9, y10, y11, y12, y13, y14, y15, y16, y17, y18, y19, y20, y21, y22, y23, y24⟩, hyl⟩ := blk25v H.out.y) | (go_at_call 11; (first | (with_reducible refine (hF1 _ H.out).mono ?_) | (with_reducible refine (hF2 _ H.out).mono ?_) | (with_reducible refine (hF3 _ H.out).mono ?_) | (with_reducible refine (hF4 _ H.out).mono ?_)); rintro e w1 ⟨rfl, b1⟩; replace H := Lib.hid (H.out.step b1); clear b1 x0 x1 x2 x3 x4 x5 x6 x7 x8 x9 x10 x11 x12 x13 x14 x15 x16 x17 x18 x19 x20 x21 x22 x23 x24 hxl y0 y1 y2 y3 y4 y5 y6 y7 y8 y9 y10 y11 y12 y13 y14 y15 y16 y17 y18 y19 y20 y21 y22 y23 y24 hyl; obtain ⟨⟨x0, x1, x2, x3, x4, x5, x6, x7, x8, x9, x10, x11, x12, x13, x14, x15, x16, x17, x18, x19, x20, x21, x22, x23, x24⟩, hxl⟩ := blk25v H.out.x; obtain ⟨⟨y0, y1, y2, y3, y4, y5, y6, y7, y8, y9, y10, y11, y12, y13, y14, y15, y16, y17, y18, y19, y20, y21, y22, y23, y24⟩, hyl⟩ := blk25v H.out.y))
 obtain ⟨hf1, hf2, hf3, hf4⟩ := Hf.out
 obtain ⟨kk1, u1, z1⟩ := fewB_yes hf1
 obtain ⟨kk2, u2, z2⟩ := fewB_yes hf2
 obtain ⟨kk3, u3, z3⟩ := fewB_yes hf3
 obtain ⟨kk4, u4, z4⟩ := fewB_yes hf4
 obtain ⟨e1, e2, e3, e4⟩ := HD.out
 obtain ⟨g1, g2, g3, g4⟩ := HZ.out
 have s1 := nsize_tall ta
 have s2 := nsize_tall tb
 have s3 := nsize_tall tc
 have s4 := nsize_tall td
 have hR1 := fun W (hb : Below w1.heap.size w1 W) => drealG_v (N1 + N2) ka la sa ta aa ca kb lb sb tb ab cb n1 W (trd_up (Nat.le_add_right _ _) (e1.below (H.out.step hb).b)) (trd_up (Nat.le_add_left _ _) (e2.below (H.out.step hb).b)) (by omega) (by omega)
 have hR2 := fun W (hb : Below w1.heap.size w1 W) => drealG_v (N3 + N4) kc lc sc tc ac cc kd ld sd td ad cd n2 W (trd_up (Nat.le_add_right _ _) (e3.below (H.out.step hb).b)) (trd_up (Nat.le_add_left _ _) (e4.below (H.out.step hb).b)) (by omega) (by omega)
 unfold dgA at hR1 hR2
 have hS0 : ∀ W' : World, W' = w1 ∨ Below w1.heap.size w1 W' → (fun W' : World => Sm2 w.heap.size p #[.int .i64 ka, .int .i64 la, .string sa, .int .i64 ta.kind, .int .u64 (ow ta.set 0), .int .u64 (ow ta.set 1), .int .u64 (ow ta.set 2), .int .u64 (ow ta.set 3), .slice aa ta.parts.length ca, .int .i64 ta.mn, .int .i64 ta.mx, .int .i64 ta.num, .int .i64 kb, .int .i64 lb, .string sb, .int .i64 tb.kind, .int .u64 (ow tb.set 0), .int .u64 (ow tb.set 1), .int .u64 (ow tb.set 2), .int .u64 (ow tb.set 3), .slice ab tb.parts.length cb, .int .i64 tb.mn, .int .i64 tb.mx, .int .i64 tb.num, .bool n1] #[.int .i64 kc, .int .i64 lc, .string sc, .int .i64 tc.kind, .int .u64 (ow tc.set 0), .int .u64 (ow tc.set 1), .int .u64 (ow tc.set 2), .int .u64 (ow tc.set 3), .slice ac tc.parts.length cc, .int .i64 tc.mn, .int .i64 tc.mx, .int .i64 tc.num, .int .i64 kd, .int .i64 ld, .string sd, .int .i64 td.kind, .int .u64 (ow td.set 0), .int .u64 (ow td.set 1), .int .u64 (ow td.set 2), .int .u64 (ow td.set 3), .slice ad td.parts.length cd, .int .i64 td.mn, .int .i64 td.mx, .int .i64 td.num, .bool n2] W') W' := fun W' hW => by
  rcases hW with rfl | hW
  ·exact ⟨H.out.x, H.out.y⟩
  ·exact ⟨(H.out.step hW).x, (H.out.step hW).y⟩
 clear e1 e2 e3 e4 g1 g2 g3 g4 s1 s2 s3 s4 hf1 hf2 hf3 hf4 hA hF1 hF2 hF3 hF4 x0 x1 x2 x3 x4 x5 x6 x7 x8 x9 x10 x11 x12 x13 x14 x15 x16 x17 x18 x19 x20 x21 x22 x23 x24 y0 y1 y2 y3 y4 y5 y6 y7 y8 y9 y10 y11 y12 y13 y14 y15 y16 y17 y18 y19 y20 y21 y22 y23 y24
 go_cut [5, 6] (fun s5 s6 wx => ∃ x y va vb vc vd, s5 = .pointer (some ⟨x, 0, none⟩) ∧ s6 = .pointer (some ⟨y, 0, none⟩) ∧ ((va.cells = #[va] ∧ va.oneCell' = true) ∧ (vb.cells = #[vb] ∧ vb.oneCell' = true) ∧ (vc.cells = #[vc] ∧ vc.oneCell' = true) ∧ (vd.cells = #[vd] ∧ vd.oneCell' = true)) ∧ S5 w1 x y #[.int .i64 ka, .int .i64 la, .string sa, va, .int .i64 kb, .int .i64 lb, .string sb, vb, .bool n1] #[.int .i64 kc, .int .i64 lc, .string sc, vc, .int .i64 kd, .int .i64 ld, .string sd, vd, .bool n2] [(drTree kc tc, vc), (drTree kd td, vd), (drTree ka ta, va), (drTree kb tb, vb)] wx)
 case first =>
  refine wp_region_held_drew (S := fun W' : World => Sm2 w.heap.size p #[.int .i64 ka, .int .i64 la, .string sa, .int .i64 ta.kind, .int .u64 (ow ta.set 0), .int .u64 (ow ta.set 1), .int .u64 (ow ta.set 2), .int .u64 (ow ta.set 3), .slice aa ta.parts.length ca, .int .i64 ta.mn, .int .i64 ta.mx, .int .i64 ta.num, .int .i64 kb, .int .i64 lb, .string sb, .int .i64 tb.kind, .int .u64 (ow tb.set 0), .int .u64 (ow tb.set 1), .int .u64 (ow tb.set 2), .int .u64 (ow tb.set 3), .slice ab tb.parts.length cb, .int .i64 tb.mn, .int .i64 tb.mx, .int .i64 tb.num, .bool n1] #[.int .i64 kc, .int .i64 lc, .string sc, .int .i64 tc.kind, .int .u64 (ow tc.set 0), .int .u64 (ow tc.set 1), .int .u64 (ow tc.set 2), .int .u64 (ow tc.set 3), .slice ac tc.parts.length cc, .int .i64 tc.mn, .int .i64 tc.mx, .int .i64 tc.num, .int .i64 kd, .int .i64 ld, .string sd, .int .i64 td.kind, .int .u64 (ow td.set 0), .int .u64 (ow td.set 1), .int .u64 (ow td.set 2), .int .u64 (ow td.set 3), .slice ad td.parts.length cd, .int .i64 td.mn, .int .i64 td.mx, .int .i64 td.num, .bool n2] W') hmix (hS0 _ (.inr (Below.drew (Below.refl _ _)))) (fun hHeld => ?_)
  refine wpAnyH_take (i := 0) (oi := { dst := some 35, op := Go.Op.load 31 (Go.Operand.tmp 2), type := 31, pos := "law.go:80", after := #[], guard := none }) (v := .agg #[.int .i64 ka, .int .i64 la, .string sa, .int .i64 ta.kind, .int .u64 (ow ta.set 0), .int .u64 (ow ta.set 1), .int .u64 (ow ta.set 2), .int .u64 (ow ta.set 3), .slice aa ta.parts.length ca, .int .i64 ta.mn, .int .i64 ta.mx, .int .i64 ta.num, .int .i64 kb, .int .i64 lb, .string sb, .int .i64 tb.kind, .int .u64 (ow tb.set 0), .int .u64 (ow tb.set 1), .int .u64 (ow tb.set 2), .int .u64 (ow tb.set 3), .slice ab tb.parts.length cb, .int .i64 tb.mn, .int .i64 tb.mx, .int .i64 tb.num, .bool n1]) rfl (by kernel_rfl) (by kernel_rfl) (by kernel_rfl) (fun _ _ _ h => h) (Or.inl ⟨by rfl, ?_⟩) hHeld ?_
  ·intro W' hSw; exact run_load_blk 31 _ rfl _ rfl hSw.x Tryz.underlying31 (by kernel_rfl)
  try simp only [List.getElem_toArray, List.getElem_cons_succ, List.getElem_cons_zero, Act.put, List.setIfInBounds_toArray, List.set_cons_zero, List.set_cons_succ]
  refine wpAnyH_take (i := 2) (oi := { dst := some 37, op := Go.Op.load 31 (Go.Operand.tmp 3), type := 31, pos := "law.go:80", after := #[], guard := none }) (v := .agg #[.int .i64 kc, .int .i64 lc, .string sc, .int .i64 tc.kind, .int .u64 (ow tc.set 0), .int .u64 (ow tc.set 1), .int .u64 (ow tc.set 2), .int .u64 (ow tc.set 3), .slice ac tc.parts.length cc, .int .i64 tc.mn, .int .i64 tc.mx, .int .i64 tc.num, .int .i64 kd, .int .i64 ld, .string sd, .int .i64 td.kind, .int .u64 (ow td.set 0), .int .u64 (ow td.set 1), .int .u64 (ow td.set 2), .int .u64 (ow td.set 3), .slice ad td.parts.length cd, .int .i64 td.mn, .int .i64 td.mx, .int .i64 td.num, .bool n2]) rfl (by kernel_rfl) (by kernel_rfl) (by kernel_rfl) (fun _ _ _ h => h) (Or.inl ⟨by rfl, ?_⟩) hHeld ?_
  ·intro W' hSw; exact run_load_blk 31 _ rfl _ rfl hSw.y Tryz.underlying31 (by kernel_rfl)
  try simp only [List.getElem_toArray, List.getElem_cons_succ, List.getElem_cons_zero, Act.put, List.setIfInBounds_toArray, List.set_cons_zero, List.set_cons_succ]
  have Z0 := Lib.hid (S4.start w1).drew
  generalize w1.drew = v0 at Z0 hHeld ⊢
  refine wpAnyH_ready (rs := [1, 4, 5]) (by kernel_rfl) (by simp) ?_
  refine AllReadyH.cons (o := { dst := some 36, op := Go.Op.call { callee := Go.Callee.value (Go.Operand.func 12), args := #[Go.Operand.tmp 35], argTypes := #[31] }, type := 40, pos := "law.go:80", after := #[{ on := 0, ground := Go.Ground.data }], guard := none }) rfl (fun K hK => ?_) ?_
  ·go_simp
   go_wp2_with (go_at_call 12; refine (hR1 _ Z0.out.b).mono ?_; rintro e v1 ⟨va, vb, rfl, ova, ovb, t1, t2, bb⟩)
   have Z1 := Lib.hid (Z0.out.call bb t1 t2)
   refine hK.out _ _ (hS0 _ (.inr Z1.out.b)) (fun hHeld => ?_)
   clear hK K t1 t2 bb
   try simp only [List.getElem_toArray, List.getElem_cons_succ, List.getElem_cons_zero, Act.put, List.setIfInBounds_toArray, List.set_cons_zero, List.set_cons_succ]
   refine wpAnyH_ready (rs := [3, 4, 5]) (by kernel_rfl) (by simp) ?_
   refine AllReadyH.cons (o := { dst := some 38, op := Go.Op.call { callee := Go.Callee.value (Go.Operand.func 12), args := #[Go.Operand.tmp 37], argTypes := #[31] }, type := 40, pos := "law.go:80", after := #[{ on := 2, ground := Go.Ground.data }, { on := 1, ground := Go.Ground.chain }], guard := none }) rfl (fun K hK => ?_) ?_
   ·go_simp
    go_wp2_with (go_at_call 12; refine (hR2 _ Z1.out.b).mono ?_; rintro e v2 ⟨vc, vd, rfl, ovc, ovd, t1, t2, bb⟩)
    have Z2 := Lib.hid (Z1.out.call bb t1 t2)
    refine hK.out _ _ (hS0 _ (.inr Z2.out.b)) (fun hHeld => ?_)
    clear hK K t1 t2 bb
    try simp only [List.getElem_toArray, List.getElem_cons_succ, List.getElem_cons_zero, Act.put, List.setIfInBounds_toArray, List.set_cons_zero, List.set_cons_succ]
    refine wpAnyH_ready (rs := [4, 5]) (by kernel_rfl) (by simp) ?_
    refine AllReadyH.cons (o := { dst := some 5, op := Go.Op.alloc 40, type := 0, pos := "law.go:80", after := #[], guard := none }) rfl (fun K hK => ?_) ?_
    ·have Z3 := Lib.hid Z2.out.alloc
     go_simp
     refine hK.out _ _ (hS0 _ (.inr Z3.out.b)) (fun hHeld => ?_)
     clear hK K
     try simp only [List.getElem_toArray, List.getElem_cons_succ, List.getElem_cons_zero, Act.put, List.setIfInBounds_toArray, List.set_cons_zero, List.set_cons_succ]
     generalize v2.alloc _ = v3 at Z3 hHeld ⊢
     generalize v2.heap.size = r4 at Z3 ⊢
     refine wpAnyH_ready (rs := [5]) (by kernel_rfl) (by simp) ?_
     refine AllReadyH.cons (o := { dst := some 6, op := Go.Op.alloc 40, type := 0, pos := "law.go:80", after := #[], guard := none }) rfl (fun K hK => ?_) AllReadyH.nil
     have Z4 := Lib.hid Z3.out.alloc
     go_simp
     refine hK.out _ _ (hS0 _ (.inr Z4.out.b)) (fun hHeld => ?_)
     clear hK K
     try simp only [List.getElem_toArray, List.getElem_cons_succ, List.getElem_cons_zero, Act.put, List.setIfInBounds_toArray, List.set_cons_zero, List.set_cons_succ]
     generalize v3.alloc _ = v4 at Z4 hHeld ⊢
     generalize v3.heap.size = r5 at Z4 ⊢
     have hn : r4 ≠ r5 := fun e => by have hq := Z4.out.n; rw [e] at hq; simp at hq
     have hm4 : r4 ∈ [r5, r4] := by simp
     have hm5 : r5 ∈ [r5, r4] := by simp
     have P4 := Z4.out.r r4 hm4
     have P5 := Z4.out.r r5 hm5
     have hx1 : (#[.int .i64 ka, .int .i64 la, .string sa, va, .int .i64 kb, .int .i64 lb, .string sb, vb, .bool n1] : Array Value).all (·.oneCell') = true := ag_one _ _ _ _ _ _ _ _ _ ova.2 ovb.2
     have hy1 : (#[.int .i64 kc, .int .i64 lc, .string sc, vc, .int .i64 kd, .int .i64 ld, .string sd, vd, .bool n2] : Array Value).all (·.oneCell') = true := ag_one _ _ _ _ _ _ _ _ _ ovc.2 ovd.2
     refine wpAnyH_ready (rs := [6]) (by kernel_rfl) (by simp) ?_
     refine AllReadyH.cons (o := { dst := none, op := Go.Op.store 40 (Go.Operand.tmp 5) (Go.Operand.tmp 36), type := 0, pos := "law.go:80", after := #[{ on := 4, ground := Go.Ground.data }, { on := 1, ground := Go.Ground.data }, { on := 3, ground := Go.Ground.chain }, { on := 0, ground := Go.Ground.phase }, { on := 1, ground := Go.Ground.phase }, { on := 2, ground := Go.Ground.textOnly Go.Departure.lateStores }, { on := 3, ground := Go.Ground.textOnly Go.Departure.lateStoresUnsure }, { on := 4, ground := Go.Ground.phase }, { on := 5, ground := Go.Ground.phase }], guard := none }) rfl (fun K hK => ?_) AllReadyH.nil
     rw [if_pos (by rfl)]
     refine wp_store_row 40 _ _ rfl r4 #[.int .i64 ka, .int .i64 la, .string sa, va, .int .i64 kb, .int .i64 lb, .string sb, vb, .bool n1] rfl rfl 40 gdZ P4.2 (by kernel_rfl) rfl hx1 ?_
     refine hK.out _ _ (hS0 _ (.inr (below_setRow Z4.out.b P4.1 _))) (fun hHeld => ?_)
     clear hK K
     try simp only [List.getElem_toArray, List.getElem_cons_succ, List.getElem_cons_zero, Act.put, List.setIfInBounds_toArray, List.set_cons_zero, List.set_cons_succ]
     have P5' : Blk (v4.setRow r4 #[.int .i64 ka, .int .i64 la, .string sa, va, .int .i64 kb, .int .i64 lb, .string sb, vb, .bool n1]) r5 gdZ 40 := (setRow_other _ r4 r5 _ (fun e => hn e.symm)).trans P5.2
     refine wpAnyH_ready (rs := [7]) (by kernel_rfl) (by simp) ?_
     refine AllReadyH.cons (o := { dst := none, op := Go.Op.store 40 (Go.Operand.tmp 6) (Go.Operand.tmp 38), type := 0, pos := "law.go:80", after := #[{ on := 5, ground := Go.Ground.data }, { on := 3, ground := Go.Ground.data }, { on := 6, ground := Go.Ground.chain }, { on := 0, ground := Go.Ground.phase }, { on := 1, ground := Go.Ground.phase }, { on := 2, ground := Go.Ground.phase }, { on := 3, ground := Go.Ground.phase }, { on := 4, ground := Go.Ground.phase }, { on := 5, ground := Go.Ground.phase }, { on := 6, ground := Go.Ground.phase }], guard := none }) rfl (fun K hK => ?_) AllReadyH.nil
     rw [if_pos (by rfl)]
     refine wp_store_row 40 _ _ rfl r5 #[.int .i64 kc, .int .i64 lc, .string sc, vc, .int .i64 kd, .int .i64 ld, .string sd, vd, .bool n2] rfl rfl 40 gdZ P5' (by kernel_rfl) rfl hy1 ?_
     refine hK.out _ _ (hS0 _ (.inr (below_setRow (below_setRow Z4.out.b P4.1 _) P5.1 _))) (fun hHeld => ?_)
     clear hK K
     try simp only [List.getElem_toArray, List.getElem_cons_succ, List.getElem_cons_zero, Act.put, List.setIfInBounds_toArray, List.set_cons_zero, List.set_cons_succ]
     refine wpAnyH_done (by kernel_rfl) ?_ _
     (try go_wp2_with fail)
     go_meet
     exact ⟨r4, r5, va, vb, vc, vd, rfl, rfl, ⟨ova, ovb, ovc, ovd⟩, S4.fin Z4.out hm4 hm5 hn _ _⟩
    refine AllReadyH.cons (o := { dst := some 6, op := Go.Op.alloc 40, type := 0, pos := "law.go:80", after := #[], guard := none }) rfl (fun K hK => ?_) AllReadyH.nil
    have Z3 := Lib.hid Z2.out.alloc
    go_simp
    refine hK.out _ _ (hS0 _ (.inr Z3.out.b)) (fun hHeld => ?_)
    clear hK K
    try simp only [List.getElem_toArray, List.getElem_cons_succ, List.getElem_cons_zero, Act.put, List.setIfInBounds_toArray, List.set_cons_zero, List.set_cons_succ]
    generalize v2.alloc _ = v3 at Z3 hHeld ⊢
    generalize v2.heap.size = r5 at Z3 ⊢
    refine wpAnyH_ready (rs := [4]) (by kernel_rfl) (by simp) ?_
    refine AllReadyH.cons (o := { dst := some 5, op := Go.Op.alloc 40, type := 0, pos := "law.go:80", after := #[], guard := none }) rfl (fun K hK => ?_) AllReadyH.nil
    have Z4 := Lib.hid Z3.out.alloc
    go_simp
    refine hK.out _ _ (hS0 _ (.inr Z4.out.b)) (fun hHeld => ?_)
    clear hK K
    try simp only [List.getElem_toArray, List.getElem_cons_succ, List.getElem_cons_zero, Act.put, List.setIfInBounds_toArray, List.set_cons_zero, List.set_cons_succ]
    generalize v3.alloc _ = v4 at Z4 hHeld ⊢
    generalize v3.heap.size = r4 at Z4 ⊢
    have hn : r4 ≠ r5 := fun e => by have hq := Z4.out.n; rw [e] at hq; simp at hq
    have hm4 : r4 ∈ [r4, r5] := by simp
    have hm5 : r5 ∈ [r4, r5] := by simp
    have P4 := Z4.out.r r4 hm4
    have P5 := Z4.out.r r5 hm5
    have hx1 : (#[.int .i64 ka, .int .i64 la, .string sa, va, .int .i64 kb, .int .i64 lb, .string sb, vb, .bool n1] : Array Value).all (·.oneCell') = true := ag_one _ _ _ _ _ _ _ _ _ ova.2 ovb.2
    have hy1 : (#[.int .i64 kc, .int .i64 lc, .string sc, vc, .int .i64 kd, .int .i64 ld, .string sd, vd, .bool n2] : Array Value).all (·.oneCell') = true := ag_one _ _ _ _ _ _ _ _ _ ovc.2 ovd.2
    refine wpAnyH_ready (rs := [6]) (by kernel_rfl) (by simp) ?_
    refine AllReadyH.cons (o := { dst := none, op := Go.Op.store 40 (Go.Operand.tmp 5) (Go.Operand.tmp 36), type := 0, pos := "law.go:80", after := #[{ on := 4, ground := Go.Ground.data }, { on := 1, ground := Go.Ground.data }, { on := 3, ground := Go.Ground.chain }, { on := 0, ground := Go.Ground.phase }, { on := 1, ground := Go.Ground.phase }, { on := 2, ground := Go.Ground.textOnly Go.Departure.lateStores }, { on := 3, ground := Go.Ground.textOnly Go.Departure.lateStoresUnsure }, { on := 4, ground := Go.Ground.phase }, { on := 5, ground := Go.Ground.phase }], guard := none }) rfl (fun K hK => ?_) AllReadyH.nil
    rw [if_pos (by rfl)]
    refine wp_store_row 40 _ _ rfl r4 #[.int .i64 ka, .int .i64 la, .string sa, va, .int .i64 kb, .int .i64 lb, .string sb, vb, .bool n1] rfl rfl 40 gdZ P4.2 (by kernel_rfl) rfl hx1 ?_
    refine hK.out _ _ (hS0 _ (.inr (below_setRow Z4.out.b P4.1 _))) (fun hHeld => ?_)
    clear hK K
    try simp only [List.getElem_toArray, List.getElem_cons_succ, List.getElem_cons_zero, Act.put, List.setIfInBounds_toArray, List.set_cons_zero, List.set_cons_succ]
    have P5' : Blk (v4.setRow r4 #[.int .i64 ka, .int .i64 la, .string sa, va, .int .i64 kb, .int .i64 lb, .string sb, vb, .bool n1]) r5 gdZ 40 := (setRow_other _ r4 r5 _ (fun e => hn e.symm)).trans P5.2
    refine wpAnyH_ready (rs := [7]) (by kernel_rfl) (by simp) ?_
    refine AllReadyH.cons (o := { dst := none, op := Go.Op.store 40 (Go.Operand.tmp 6) (Go.Operand.tmp 38), type := 0, pos := "law.go:80", after := #[{ on := 5, ground := Go.Ground.data }, { on := 3, ground := Go.Ground.data }, { on := 6, ground := Go.Ground.chain }, { on := 0, ground := Go.Ground.phase }, { on := 1, ground := Go.Ground.phase }, { on := 2, ground := Go.Ground.phase }, { on := 3, ground := Go.Ground.phase }, { on := 4, ground := Go.Ground.phase }, { on := 5, ground := Go.Ground.phase }, { on := 6, ground := Go.Ground.phase }], guard := none }) rfl (fun K hK => ?_) AllReadyH.nil
    rw [if_pos (by rfl)]
    refine wp_store_row 40 _ _ rfl r5 #[.int .i64 kc, .int .i64 lc, .string sc, vc, .int .i64 kd, .int .i64 ld, .string sd, vd, .bool n2] rfl rfl 40 gdZ P5' (by kernel_rfl) rfl hy1 ?_
    refine hK.out _ _ (hS0 _ (.inr (below_setRow (below_setRow Z4.out.b P4.1 _) P5.1 _))) (fun hHeld => ?_)
    clear hK K
    try simp only [List.getElem_toArray, List.getElem_cons_succ, List.getElem_cons_zero, Act.put, List.setIfInBounds_toArray, List.set_cons_zero, List.set_cons_succ]
    refine wpAnyH_done (by kernel_rfl) ?_ _
    (try go_wp2_with fail)
    go_meet
    exact ⟨r4, r5, va, vb, vc, vd, rfl, rfl, ⟨ova, ovb, ovc, ovd⟩, S4.fin Z4.out hm4 hm5 hn _ _⟩
   refine AllReadyH.cons (o := { dst := some 5, op := Go.Op.alloc 40, type := 0, pos := "law.go:80", after := #[], guard := none }) rfl (fun K hK => ?_) ?_
   ·have Z2 := Lib.hid Z1.out.alloc
    go_simp
    refine hK.out _ _ (hS0 _ (.inr Z2.out.b)) (fun hHeld => ?_)
    clear hK K
    try simp only [List.getElem_toArray, List.getElem_cons_succ, List.getElem_cons_zero, Act.put, List.setIfInBounds_toArray, List.set_cons_zero, List.set_cons_succ]
    generalize v1.alloc _ = v2 at Z2 hHeld ⊢
    generalize v1.heap.size = r4 at Z2 ⊢
    refine wpAnyH_ready (rs := [3, 5]) (by kernel_rfl) (by simp) ?_
    refine AllReadyH.cons (o := { dst := some 38, op := Go.Op.call { callee := Go.Callee.value (Go.Operand.func 12), args := #[Go.Operand.tmp 37], argTypes := #[31] }, type := 40, pos := "law.go:80", after := #[{ on := 2, ground := Go.Ground.data }, { on := 1, ground := Go.Ground.chain }], guard := none }) rfl (fun K hK => ?_) ?_
    ·go_simp
     go_wp2_with (go_at_call 12; refine (hR2 _ Z2.out.b).mono ?_; rintro e v3 ⟨vc, vd, rfl, ovc, ovd, t1, t2, bb⟩)
     have Z3 := Lib.hid (Z2.out.call bb t1 t2)
     refine hK.out _ _ (hS0 _ (.inr Z3.out.b)) (fun hHeld => ?_)
     clear hK K t1 t2 bb
     try simp only [List.getElem_toArray, List.getElem_cons_succ, List.getElem_cons_zero, Act.put, List.setIfInBounds_toArray, List.set_cons_zero, List.set_cons_succ]
     refine wpAnyH_ready (rs := [5]) (by kernel_rfl) (by simp) ?_
     refine AllReadyH.cons (o := { dst := some 6, op := Go.Op.alloc 40, type := 0, pos := "law.go:80", after := #[], guard := none }) rfl (fun K hK => ?_) AllReadyH.nil
     have Z4 := Lib.hid Z3.out.alloc
     go_simp
     refine hK.out _ _ (hS0 _ (.inr Z4.out.b)) (fun hHeld => ?_)
     clear hK K
     try simp only [List.getElem_toArray, List.getElem_cons_succ, List.getElem_cons_zero, Act.put, List.setIfInBounds_toArray, List.set_cons_zero, List.set_cons_succ]
     generalize v3.alloc _ = v4 at Z4 hHeld ⊢
     generalize v3.heap.size = r5 at Z4 ⊢
     have hn : r4 ≠ r5 := fun e => by have hq := Z4.out.n; rw [e] at hq; simp at hq
     have hm4 : r4 ∈ [r5, r4] := by simp
     have hm5 : r5 ∈ [r5, r4] := by simp
     have P4 := Z4.out.r r4 hm4
     have P5 := Z4.out.r r5 hm5
     have hx1 : (#[.int .i64 ka, .int .i64 la, .string sa, va, .int .i64 kb, .int .i64 lb, .string sb, vb, .bool n1] : Array Value).all (·.oneCell') = true := ag_one _ _ _ _ _ _ _ _ _ ova.2 ovb.2
     have hy1 : (#[.int .i64 kc, .int .i64 lc, .string sc, vc, .int .i64 kd, .int .i64 ld, .string sd, vd, .bool n2] : Array Value).all (·.oneCell') = true := ag_one _ _ _ _ _ _ _ _ _ ovc.2 ovd.2
     refine wpAnyH_ready (rs := [6]) (by kernel_rfl) (by simp) ?_
     refine AllReadyH.cons (o := { dst := none, op := Go.Op.store 40 (Go.Operand.tmp 5) (Go.Operand.tmp 36), type := 0, pos := "law.go:80", after := #[{ on := 4, ground := Go.Ground.data }, { on := 1, ground := Go.Ground.data }, { on := 3, ground := Go.Ground.chain }, { on := 0, ground := Go.Ground.phase }, { on := 1, ground := Go.Ground.phase }, { on := 2, ground := Go.Ground.textOnly Go.Departure.lateStores }, { on := 3, ground := Go.Ground.textOnly Go.Departure.lateStoresUnsure }, { on := 4, ground := Go.Ground.phase }, { on := 5, ground := Go.Ground.phase }], guard := none }) rfl (fun K hK => ?_) AllReadyH.nil
     rw [if_pos (by rfl)]
     refine wp_store_row 40 _ _ rfl r4 #[.int .i64 ka, .int .i64 la, .string sa, va, .int .i64 kb, .int .i64 lb, .string sb, vb, .bool n1] rfl rfl 40 gdZ P4.2 (by kernel_rfl) rfl hx1 ?_
     refine hK.out _ _ (hS0 _ (.inr (below_setRow Z4.out.b P4.1 _))) (fun hHeld => ?_)
     clear hK K
     try simp only [List.getElem_toArray, List.getElem_cons_succ, List.getElem_cons_zero, Act.put, List.setIfInBounds_toArray, List.set_cons_zero, List.set_cons_succ]
     have P5' : Blk (v4.setRow r4 #[.int .i64 ka, .int .i64 la, .string sa, va, .int .i64 kb, .int .i64 lb, .string sb, vb, .bool n1]) r5 gdZ 40 := (setRow_other _ r4 r5 _ (fun e => hn e.symm)).trans P5.2
     refine wpAnyH_ready (rs := [7]) (by kernel_rfl) (by simp) ?_
     refine AllReadyH.cons (o := { dst := none, op := Go.Op.store 40 (Go.Operand.tmp 6) (Go.Operand.tmp 38), type := 0, pos := "law.go:80", after := #[{ on := 5, ground := Go.Ground.data }, { on := 3, ground := Go.Ground.data }, { on := 6, ground := Go.Ground.chain }, { on := 0, ground := Go.Ground.phase }, { on := 1, ground := Go.Ground.phase }, { on := 2, ground := Go.Ground.phase }, { on := 3, ground := Go.Ground.phase }, { on := 4, ground := Go.Ground.phase }, { on := 5, ground := Go.Ground.phase }, { on := 6, ground := Go.Ground.phase }], guard := none }) rfl (fun K hK => ?_) AllReadyH.nil
     rw [if_pos (by rfl)]
     refine wp_store_row 40 _ _ rfl r5 #[.int .i64 kc, .int .i64 lc, .string sc, vc, .int .i64 kd, .int .i64 ld, .string sd, vd, .bool n2] rfl rfl 40 gdZ P5' (by kernel_rfl) rfl hy1 ?_
     refine hK.out _ _ (hS0 _ (.inr (below_setRow (below_setRow Z4.out.b P4.1 _) P5.1 _))) (fun hHeld => ?_)
     clear hK K
     try simp only [List.getElem_toArray, List.getElem_cons_succ, List.getElem_cons_zero, Act.put, List.setIfInBounds_toArray, List.set_cons_zero, List.set_cons_succ]
     refine wpAnyH_done (by kernel_rfl) ?_ _
     (try go_wp2_with fail)
     go_meet
     exact ⟨r4, r5, va, vb, vc, vd, rfl, rfl, ⟨ova, ovb, ovc, ovd⟩, S4.fin Z4.out hm4 hm5 hn _ _⟩
    refine AllReadyH.cons (o := { dst := some 6, op := Go.Op.alloc 40, type := 0, pos := "law.go:80", after := #[], guard := none }) rfl (fun K hK => ?_) AllReadyH.nil
    have Z3 := Lib.hid Z2.out.alloc
    go_simp
    refine hK.out _ _ (hS0 _ (.inr Z3.out.b)) (fun hHeld => ?_)
    clear hK K
    try simp only [List.getElem_toArray, List.getElem_cons_succ, List.getElem_cons_zero, Act.put, List.setIfInBounds_toArray, List.set_cons_zero, List.set_cons_succ]
    generalize v2.alloc _ = v3 at Z3 hHeld ⊢
    generalize v2.heap.size = r5 at Z3 ⊢
    refine wpAnyH_ready (rs := [3]) (by kernel_rfl) (by simp) ?_
    refine AllReadyH.cons (o := { dst := some 38, op := Go.Op.call { callee := Go.Callee.value (Go.Operand.func 12), args := #[Go.Operand.tmp 37], argTypes := #[31] }, type := 40, pos := "law.go:80", after := #[{ on := 2, ground := Go.Ground.data }, { on := 1, ground := Go.Ground.chain }], guard := none }) rfl (fun K hK => ?_) AllReadyH.nil
    go_simp
    go_wp2_with (go_at_call 12; refine (hR2 _ Z3.out.b).mono ?_; rintro e v4 ⟨vc, vd, rfl, ovc, ovd, t1, t2, bb⟩)
    have Z4 := Lib.hid (Z3.out.call bb t1 t2)
    refine hK.out _ _ (hS0 _ (.inr Z4.out.b)) (fun hHeld => ?_)
    clear hK K t1 t2 bb
    try simp only [List.getElem_toArray, List.getElem_cons_succ, List.getElem_cons_zero, Act.put, List.setIfInBounds_toArray, List.set_cons_zero, List.set_cons_succ]
    have hn : r4 ≠ r5 := fun e => by have hq := Z4.out.n; rw [e] at hq; simp at hq
    have hm4 : r4 ∈ [r5, r4] := by simp
    have hm5 : r5 ∈ [r5, r4] := by simp
    have P4 := Z4.out.r r4 hm4
    have P5 := Z4.out.r r5 hm5
    have hx1 : (#[.int .i64 ka, .int .i64 la, .string sa, va, .int .i64 kb, .int .i64 lb, .string sb, vb, .bool n1] : Array Value).all (·.oneCell') = true := ag_one _ _ _ _ _ _ _ _ _ ova.2 ovb.2
    have hy1 : (#[.int .i64 kc, .int .i64 lc, .string sc, vc, .int .i64 kd, .int .i64 ld, .string sd, vd, .bool n2] : Array Value).all (·.oneCell') = true := ag_one _ _ _ _ _ _ _ _ _ ovc.2 ovd.2
    refine wpAnyH_ready (rs := [6]) (by kernel_rfl) (by simp) ?_
    refine AllReadyH.cons (o := { dst := none, op := Go.Op.store 40 (Go.Operand.tmp 5) (Go.Operand.tmp 36), type := 0, pos := "law.go:80", after := #[{ on := 4, ground := Go.Ground.data }, { on := 1, ground := Go.Ground.data }, { on := 3, ground := Go.Ground.chain }, { on := 0, ground := Go.Ground.phase }, { on := 1, ground := Go.Ground.phase }, { on := 2, ground := Go.Ground.textOnly Go.Departure.lateStores }, { on := 3, ground := Go.Ground.textOnly Go.Departure.lateStoresUnsure }, { on := 4, ground := Go.Ground.phase }, { on := 5, ground := Go.Ground.phase }], guard := none }) rfl (fun K hK => ?_) AllReadyH.nil
    rw [if_pos (by rfl)]
    refine wp_store_row 40 _ _ rfl r4 #[.int .i64 ka, .int .i64 la, .string sa, va, .int .i64 kb, .int .i64 lb, .string sb, vb, .bool n1] rfl rfl 40 gdZ P4.2 (by kernel_rfl) rfl hx1 ?_
    refine hK.out _ _ (hS0 _ (.inr (below_setRow Z4.out.b P4.1 _))) (fun hHeld => ?_)
    clear hK K
    try simp only [List.getElem_toArray, List.getElem_cons_succ, List.getElem_cons_zero, Act.put, List.setIfInBounds_toArray, List.set_cons_zero, List.set_cons_succ]
    have P5' : Blk (v4.setRow r4 #[.int .i64 ka, .int .i64 la, .string sa, va, .int .i64 kb, .int .i64 lb, .string sb, vb, .bool n1]) r5 gdZ 40 := (setRow_other _ r4 r5 _ (fun e => hn e.symm)).trans P5.2
    refine wpAnyH_ready (rs := [7]) (by kernel_rfl) (by simp) ?_
    refine AllReadyH.cons (o := { dst := none, op := Go.Op.store 40 (Go.Operand.tmp 6) (Go.Operand.tmp 38), type := 0, pos := "law.go:80", after := #[{ on := 5, ground := Go.Ground.data }, { on := 3, ground := Go.Ground.data }, { on := 6, ground := Go.Ground.chain }, { on := 0, ground := Go.Ground.phase }, { on := 1, ground := Go.Ground.phase }, { on := 2, ground := Go.Ground.phase }, { on := 3, ground := Go.Ground.phase }, { on := 4, ground := Go.Ground.phase }, { on := 5, ground := Go.Ground.phase }, { on := 6, ground := Go.Ground.phase }], guard := none }) rfl (fun K hK => ?_) AllReadyH.nil
    rw [if_pos (by rfl)]
    refine wp_store_row 40 _ _ rfl r5 #[.int .i64 kc, .int .i64 lc, .string sc, vc, .int .i64 kd, .int .i64 ld, .string sd, vd, .bool n2] rfl rfl 40 gdZ P5' (by kernel_rfl) rfl hy1 ?_
    refine hK.out _ _ (hS0 _ (.inr (below_setRow (below_setRow Z4.out.b P4.1 _) P5.1 _))) (fun hHeld => ?_)
    clear hK K
    try simp only [List.getElem_toArray, List.getElem_cons_succ, List.getElem_cons_zero, Act.put, List.setIfInBounds_toArray, List.set_cons_zero, List.set_cons_succ]
    refine wpAnyH_done (by kernel_rfl) ?_ _
    (try go_wp2_with fail)
    go_meet
    exact ⟨r4, r5, va, vb, vc, vd, rfl, rfl, ⟨ova, ovb, ovc, ovd⟩, S4.fin Z4.out hm4 hm5 hn _ _⟩
   refine AllReadyH.cons (o := { dst := some 6, op := Go.Op.alloc 40, type := 0, pos := "law.go:80", after := #[], guard := none }) rfl (fun K hK => ?_) AllReadyH.nil
   have Z2 := Lib.hid Z1.out.alloc
   go_simp
   refine hK.out _ _ (hS0 _ (.inr Z2.out.b)) (fun hHeld => ?_)
   clear hK K
   try simp only [List.getElem_toArray, List.getElem_cons_succ, List.getElem_cons_zero, Act.put, List.setIfInBounds_toArray, List.set_cons_zero, List.set_cons_succ]
   generalize v1.alloc _ = v2 at Z2 hHeld ⊢
   generalize v1.heap.size = r5 at Z2 ⊢
   refine wpAnyH_ready (rs := [3, 4]) (by kernel_rfl) (by simp) ?_
   refine AllReadyH.cons (o := { dst := some 38, op := Go.Op.call { callee := Go.Callee.value (Go.Operand.func 12), args := #[Go.Operand.tmp 37], argTypes := #[31] }, type := 40, pos := "law.go:80", after := #[{ on := 2, ground := Go.Ground.data }, { on := 1, ground := Go.Ground.chain }], guard := none }) rfl (fun K hK => ?_) ?_
   ·go_simp
    go_wp2_with (go_at_call 12; refine (hR2 _ Z2.out.b).mono ?_; rintro e v3 ⟨vc, vd, rfl, ovc, ovd, t1, t2, bb⟩)
    have Z3 := Lib.hid (Z2.out.call bb t1 t2)
    refine hK.out _ _ (hS0 _ (.inr Z3.out.b)) (fun hHeld => ?_)
    clear hK K t1 t2 bb
    try simp only [List.getElem_toArray, List.getElem_cons_succ, List.getElem_cons_zero, Act.put, List.setIfInBounds_toArray, List.set_cons_zero, List.set_cons_succ]
    refine wpAnyH_ready (rs := [4]) (by kernel_rfl) (by simp) ?_
    refine AllReadyH.cons (o := { dst := some 5, op := Go.Op.alloc 40, type := 0, pos := "law.go:80", after := #[], guard := none }) rfl (fun K hK => ?_) AllReadyH.nil
    have Z4 := Lib.hid Z3.out.alloc
    go_simp
    refine hK.out _ _ (hS0 _ (.inr Z4.out.b)) (fun hHeld => ?_)
    clear hK K
    try simp only [List.getElem_toArray, List.getElem_cons_succ, List.getElem_cons_zero, Act.put, List.setIfInBounds_toArray, List.set_cons_zero, List.set_cons_succ]
    generalize v3.alloc _ = v4 at Z4 hHeld ⊢
    generalize v3.heap.size = r4 at Z4 ⊢
    have hn : r4 ≠ r5 := fun e => by have hq := Z4.out.n; rw [e] at hq; simp at hq
    have hm4 : r4 ∈ [r4, r5] := by simp
    have hm5 : r5 ∈ [r4, r5] := by simp
    have P4 := Z4.out.r r4 hm4
    have P5 := Z4.out.r r5 hm5
    have hx1 : (#[.int .i64 ka, .int .i64 la, .string sa, va, .int .i64 kb, .int .i64 lb, .string sb, vb, .bool n1] : Array Value).all (·.oneCell') = true := ag_one _ _ _ _ _ _ _ _ _ ova.2 ovb.2
    have hy1 : (#[.int .i64 kc, .int .i64 lc, .string sc, vc, .int .i64 kd, .int .i64 ld, .string sd, vd, .bool n2] : Array Value).all (·.oneCell') = true := ag_one _ _ _ _ _ _ _ _ _ ovc.2 ovd.2
    refine wpAnyH_ready (rs := [6]) (by kernel_rfl) (by simp) ?_
    refine AllReadyH.cons (o := { dst := none, op := Go.Op.store 40 (Go.Operand.tmp 5) (Go.Operand.tmp 36), type := 0, pos := "law.go:80", after := #[{ on := 4, ground := Go.Ground.data }, { on := 1, ground := Go.Ground.data }, { on := 3, ground := Go.Ground.chain }, { on := 0, ground := Go.Ground.phase }, { on := 1, ground := Go.Ground.phase }, { on := 2, ground := Go.Ground.textOnly Go.Departure.lateStores }, { on := 3, ground := Go.Ground.textOnly Go.Departure.lateStoresUnsure }, { on := 4, ground := Go.Ground.phase }, { on := 5, ground := Go.Ground.phase }], guard := none }) rfl (fun K hK => ?_) AllReadyH.nil
    rw [if_pos (by rfl)]
    refine wp_store_row 40 _ _ rfl r4 #[.int .i64 ka, .int .i64 la, .string sa, va, .int .i64 kb, .int .i64 lb, .string sb, vb, .bool n1] rfl rfl 40 gdZ P4.2 (by kernel_rfl) rfl hx1 ?_
    refine hK.out _ _ (hS0 _ (.inr (below_setRow Z4.out.b P4.1 _))) (fun hHeld => ?_)
    clear hK K
    try simp only [List.getElem_toArray, List.getElem_cons_succ, List.getElem_cons_zero, Act.put, List.setIfInBounds_toArray, List.set_cons_zero, List.set_cons_succ]
    have P5' : Blk (v4.setRow r4 #[.int .i64 ka, .int .i64 la, .string sa, va, .int .i64 kb, .int .i64 lb, .string sb, vb, .bool n1]) r5 gdZ 40 := (setRow_other _ r4 r5 _ (fun e => hn e.symm)).trans P5.2
    refine wpAnyH_ready (rs := [7]) (by kernel_rfl) (by simp) ?_
    refine AllReadyH.cons (o := { dst := none, op := Go.Op.store 40 (Go.Operand.tmp 6) (Go.Operand.tmp 38), type := 0, pos := "law.go:80", after := #[{ on := 5, ground := Go.Ground.data }, { on := 3, ground := Go.Ground.data }, { on := 6, ground := Go.Ground.chain }, { on := 0, ground := Go.Ground.phase }, { on := 1, ground := Go.Ground.phase }, { on := 2, ground := Go.Ground.phase }, { on := 3, ground := Go.Ground.phase }, { on := 4, ground := Go.Ground.phase }, { on := 5, ground := Go.Ground.phase }, { on := 6, ground := Go.Ground.phase }], guard := none }) rfl (fun K hK => ?_) AllReadyH.nil
    rw [if_pos (by rfl)]
    refine wp_store_row 40 _ _ rfl r5 #[.int .i64 kc, .int .i64 lc, .string sc, vc, .int .i64 kd, .int .i64 ld, .string sd, vd, .bool n2] rfl rfl 40 gdZ P5' (by kernel_rfl) rfl hy1 ?_
    refine hK.out _ _ (hS0 _ (.inr (below_setRow (below_setRow Z4.out.b P4.1 _) P5.1 _))) (fun hHeld => ?_)
    clear hK K
    try simp only [List.getElem_toArray, List.getElem_cons_succ, List.getElem_cons_zero, Act.put, List.setIfInBounds_toArray, List.set_cons_zero, List.set_cons_succ]
    refine wpAnyH_done (by kernel_rfl) ?_ _
    (try go_wp2_with fail)
    go_meet
    exact ⟨r4, r5, va, vb, vc, vd, rfl, rfl, ⟨ova, ovb, ovc, ovd⟩, S4.fin Z4.out hm4 hm5 hn _ _⟩
   refine AllReadyH.cons (o := { dst := some 5, op := Go.Op.alloc 40, type := 0, pos := "law.go:80", after := #[], guard := none }) rfl (fun K hK => ?_) AllReadyH.nil
   have Z3 := Lib.hid Z2.out.alloc
   go_simp
   refine hK.out _ _ (hS0 _ (.inr Z3.out.b)) (fun hHeld => ?_)
   clear hK K
   try simp only [List.getElem_toArray, List.getElem_cons_succ, List.getElem_cons_zero, Act.put, List.setIfInBounds_toArray, List.set_cons_zero, List.set_cons_succ]
   generalize v2.alloc _ = v3 at Z3 hHeld ⊢
   generalize v2.heap.size = r4 at Z3 ⊢
   refine wpAnyH_ready (rs := [3]) (by kernel_rfl) (by simp) ?_
   refine AllReadyH.cons (o := { dst := some 38, op := Go.Op.call { callee := Go.Callee.value (Go.Operand.func 12), args := #[Go.Operand.tmp 37], argTypes := #[31] }, type := 40, pos := "law.go:80", after := #[{ on := 2, ground := Go.Ground.data }, { on := 1, ground := Go.Ground.chain }], guard := none }) rfl (fun K hK => ?_) AllReadyH.nil
   go_simp
   go_wp2_with (go_at_call 12; refine (hR2 _ Z3.out.b).mono ?_; rintro e v4 ⟨vc, vd, rfl, ovc, ovd, t1, t2, bb⟩)
   have Z4 := Lib.hid (Z3.out.call bb t1 t2)
   refine hK.out _ _ (hS0 _ (.inr Z4.out.b)) (fun hHeld => ?_)
   clear hK K t1 t2 bb
   try simp only [List.getElem_toArray, List.getElem_cons_succ, List.getElem_cons_zero, Act.put, List.setIfInBounds_toArray, List.set_cons_zero, List.set_cons_succ]
   have hn : r4 ≠ r5 := fun e => by have hq := Z4.out.n; rw [e] at hq; simp at hq
   have hm4 : r4 ∈ [r4, r5] := by simp
   have hm5 : r5 ∈ [r4, r5] := by simp
   have P4 := Z4.out.r r4 hm4
   have P5 := Z4.out.r r5 hm5
   have hx1 : (#[.int .i64 ka, .int .i64 la, .string sa, va, .int .i64 kb, .int .i64 lb, .string sb, vb, .bool n1] : Array Value).all (·.oneCell') = true := ag_one _ _ _ _ _ _ _ _ _ ova.2 ovb.2
   have hy1 : (#[.int .i64 kc, .int .i64 lc, .string sc, vc, .int .i64 kd, .int .i64 ld, .string sd, vd, .bool n2] : Array Value).all (·.oneCell') = true := ag_one _ _ _ _ _ _ _ _ _ ovc.2 ovd.2
   refine wpAnyH_ready (rs := [6]) (by kernel_rfl) (by simp) ?_
   refine AllReadyH.cons (o := { dst := none, op := Go.Op.store 40 (Go.Operand.tmp 5) (Go.Operand.tmp 36), type := 0, pos := "law.go:80", after := #[{ on := 4, ground := Go.Ground.data }, { on := 1, ground := Go.Ground.data }, { on := 3, ground := Go.Ground.chain }, { on := 0, ground := Go.Ground.phase }, { on := 1, ground := Go.Ground.phase }, { on := 2, ground := Go.Ground.textOnly Go.Departure.lateStores }, { on := 3, ground := Go.Ground.textOnly Go.Departure.lateStoresUnsure }, { on := 4, ground := Go.Ground.phase }, { on := 5, ground := Go.Ground.phase }], guard := none }) rfl (fun K hK => ?_) AllReadyH.nil
   rw [if_pos (by rfl)]
   refine wp_store_row 40 _ _ rfl r4 #[.int .i64 ka, .int .i64 la, .string sa, va, .int .i64 kb, .int .i64 lb, .string sb, vb, .bool n1] rfl rfl 40 gdZ P4.2 (by kernel_rfl) rfl hx1 ?_
   refine hK.out _ _ (hS0 _ (.inr (below_setRow Z4.out.b P4.1 _))) (fun hHeld => ?_)
   clear hK K
   try simp only [List.getElem_toArray, List.getElem_cons_succ, List.getElem_cons_zero, Act.put, List.setIfInBounds_toArray, List.set_cons_zero, List.set_cons_succ]
   have P5' : Blk (v4.setRow r4 #[.int .i64 ka, .int .i64 la, .string sa, va, .int .i64 kb, .int .i64 lb, .string sb, vb, .bool n1]) r5 gdZ 40 := (setRow_other _ r4 r5 _ (fun e => hn e.symm)).trans P5.2
   refine wpAnyH_ready (rs := [7]) (by kernel_rfl) (by simp) ?_
   refine AllReadyH.cons (o := { dst := none, op := Go.Op.store 40 (Go.Operand.tmp 6) (Go.Operand.tmp 38), type := 0, pos := "law.go:80", after := #[{ on := 5, ground := Go.Ground.data }, { on := 3, ground := Go.Ground.data }, { on := 6, ground := Go.Ground.chain }, { on := 0, ground := Go.Ground.phase }, { on := 1, ground := Go.Ground.phase }, { on := 2, ground := Go.Ground.phase }, { on := 3, ground := Go.Ground.phase }, { on := 4, ground := Go.Ground.phase }, { on := 5, ground := Go.Ground.phase }, { on := 6, ground := Go.Ground.phase }], guard := none }) rfl (fun K hK => ?_) AllReadyH.nil
   rw [if_pos (by rfl)]
   refine wp_store_row 40 _ _ rfl r5 #[.int .i64 kc, .int .i64 lc, .string sc, vc, .int .i64 kd, .int .i64 ld, .string sd, vd, .bool n2] rfl rfl 40 gdZ P5' (by kernel_rfl) rfl hy1 ?_
   refine hK.out _ _ (hS0 _ (.inr (below_setRow (below_setRow Z4.out.b P4.1 _) P5.1 _))) (fun hHeld => ?_)
   clear hK K
   try simp only [List.getElem_toArray, List.getElem_cons_succ, List.getElem_cons_zero, Act.put, List.setIfInBounds_toArray, List.set_cons_zero, List.set_cons_succ]
   refine wpAnyH_done (by kernel_rfl) ?_ _
   (try go_wp2_with fail)
   go_meet
   exact ⟨r4, r5, va, vb, vc, vd, rfl, rfl, ⟨ova, ovb, ovc, ovd⟩, S4.fin Z4.out hm4 hm5 hn _ _⟩
  refine AllReadyH.cons (o := { dst := some 5, op := Go.Op.alloc 40, type := 0, pos := "law.go:80", after := #[], guard := none }) rfl (fun K hK => ?_) ?_
  ·have Z1 := Lib.hid Z0.out.alloc
   go_simp
   refine hK.out _ _ (hS0 _ (.inr Z1.out.b)) (fun hHeld => ?_)
   clear hK K
   try simp only [List.getElem_toArray, List.getElem_cons_succ, List.getElem_cons_zero, Act.put, List.setIfInBounds_toArray, List.set_cons_zero, List.set_cons_succ]
   generalize v0.alloc _ = v1 at Z1 hHeld ⊢
   generalize v0.heap.size = r4 at Z1 ⊢
   refine wpAnyH_ready (rs := [1, 5]) (by kernel_rfl) (by simp) ?_
   refine AllReadyH.cons (o := { dst := some 36, op := Go.Op.call { callee := Go.Callee.value (Go.Operand.func 12), args := #[Go.Operand.tmp 35], argTypes := #[31] }, type := 40, pos := "law.go:80", after := #[{ on := 0, ground := Go.Ground.data }], guard := none }) rfl (fun K hK => ?_) ?_
   ·go_simp
    go_wp2_with (go_at_call 12; refine (hR1 _ Z1.out.b).mono ?_; rintro e v2 ⟨va, vb, rfl, ova, ovb, t1, t2, bb⟩)
    have Z2 := Lib.hid (Z1.out.call bb t1 t2)
    refine hK.out _ _ (hS0 _ (.inr Z2.out.b)) (fun hHeld => ?_)
    clear hK K t1 t2 bb
    try simp only [List.getElem_toArray, List.getElem_cons_succ, List.getElem_cons_zero, Act.put, List.setIfInBounds_toArray, List.set_cons_zero, List.set_cons_succ]
    refine wpAnyH_ready (rs := [3, 5]) (by kernel_rfl) (by simp) ?_
    refine AllReadyH.cons (o := { dst := some 38, op := Go.Op.call { callee := Go.Callee.value (Go.Operand.func 12), args := #[Go.Operand.tmp 37], argTypes := #[31] }, type := 40, pos := "law.go:80", after := #[{ on := 2, ground := Go.Ground.data }, { on := 1, ground := Go.Ground.chain }], guard := none }) rfl (fun K hK => ?_) ?_
    ·go_simp
     go_wp2_with (go_at_call 12; refine (hR2 _ Z2.out.b).mono ?_; rintro e v3 ⟨vc, vd, rfl, ovc, ovd, t1, t2, bb⟩)
     have Z3 := Lib.hid (Z2.out.call bb t1 t2)
     refine hK.out _ _ (hS0 _ (.inr Z3.out.b)) (fun hHeld => ?_)
     clear hK K t1 t2 bb
     try simp only [List.getElem_toArray, List.getElem_cons_succ, List.getElem_cons_zero, Act.put, List.setIfInBounds_toArray, List.set_cons_zero, List.set_cons_succ]
     refine wpAnyH_ready (rs := [5]) (by kernel_rfl) (by simp) ?_
     refine AllReadyH.cons (o := { dst := some 6, op := Go.Op.alloc 40, type := 0, pos := "law.go:80", after := #[], guard := none }) rfl (fun K hK => ?_) AllReadyH.nil
     have Z4 := Lib.hid Z3.out.alloc
     go_simp
     refine hK.out _ _ (hS0 _ (.inr Z4.out.b)) (fun hHeld => ?_)
     clear hK K
     try simp only [List.getElem_toArray, List.getElem_cons_succ, List.getElem_cons_zero, Act.put, List.setIfInBounds_toArray, List.set_cons_zero, List.set_cons_succ]
     generalize v3.alloc _ = v4 at Z4 hHeld ⊢
     generalize v3.heap.size = r5 at Z4 ⊢
     have hn : r4 ≠ r5 := fun e => by have hq := Z4.out.n; rw [e] at hq; simp at hq
     have hm4 : r4 ∈ [r5, r4] := by simp
     have hm5 : r5 ∈ [r5, r4] := by simp
     have P4 := Z4.out.r r4 hm4
     have P5 := Z4.out.r r5 hm5
     have hx1 : (#[.int .i64 ka, .int .i64 la, .string sa, va, .int .i64 kb, .int .i64 lb, .string sb, vb, .bool n1] : Array Value).all (·.oneCell') = true := ag_one _ _ _ _ _ _ _ _ _ ova.2 ovb.2
     have hy1 : (#[.int .i64 kc, .int .i64 lc, .string sc, vc, .int .i64 kd, .int .i64 ld, .string sd, vd, .bool n2] : Array Value).all (·.oneCell') = true := ag_one _ _ _ _ _ _ _ _ _ ovc.2 ovd.2
     refine wpAnyH_ready (rs := [6]) (by kernel_rfl) (by simp) ?_
     refine AllReadyH.cons (o := { dst := none, op := Go.Op.store 40 (Go.Operand.tmp 5) (Go.Operand.tmp 36), type := 0, pos := "law.go:80", after := #[{ on := 4, ground := Go.Ground.data }, { on := 1, ground := Go.Ground.data }, { on := 3, ground := Go.Ground.chain }, { on := 0, ground := Go.Ground.phase }, { on := 1, ground := Go.Ground.phase }, { on := 2, ground := Go.Ground.textOnly Go.Departure.lateStores }, { on := 3, ground := Go.Ground.textOnly Go.Departure.lateStoresUnsure }, { on := 4, ground := Go.Ground.phase }, { on := 5, ground := Go.Ground.phase }], guard := none }) rfl (fun K hK => ?_) AllReadyH.nil
     rw [if_pos (by rfl)]
     refine wp_store_row 40 _ _ rfl r4 #[.int .i64 ka, .int .i64 la, .string sa, va, .int .i64 kb, .int .i64 lb, .string sb, vb, .bool n1] rfl rfl 40 gdZ P4.2 (by kernel_rfl) rfl hx1 ?_
     refine hK.out _ _ (hS0 _ (.inr (below_setRow Z4.out.b P4.1 _))) (fun hHeld => ?_)
     clear hK K
     try simp only [List.getElem_toArray, List.getElem_cons_succ, List.getElem_cons_zero, Act.put, List.setIfInBounds_toArray, List.set_cons_zero, List.set_cons_succ]
     have P5' : Blk (v4.setRow r4 #[.int .i64 ka, .int .i64 la, .string sa, va, .int .i64 kb, .int .i64 lb, .string sb, vb, .bool n1]) r5 gdZ 40 := (setRow_other _ r4 r5 _ (fun e => hn e.symm)).trans P5.2
     refine wpAnyH_ready (rs := [7]) (by kernel_rfl) (by simp) ?_
     refine AllReadyH.cons (o := { dst := none, op := Go.Op.store 40 (Go.Operand.tmp 6) (Go.Operand.tmp 38), type := 0, pos := "law.go:80", after := #[{ on := 5, ground := Go.Ground.data }, { on := 3, ground := Go.Ground.data }, { on := 6, ground := Go.Ground.chain }, { on := 0, ground := Go.Ground.phase }, { on := 1, ground := Go.Ground.phase }, { on := 2, ground := Go.Ground.phase }, { on := 3, ground := Go.Ground.phase }, { on := 4, ground := Go.Ground.phase }, { on := 5, ground := Go.Ground.phase }, { on := 6, ground := Go.Ground.phase }], guard := none }) rfl (fun K hK => ?_) AllReadyH.nil
     rw [if_pos (by rfl)]
     refine wp_store_row 40 _ _ rfl r5 #[.int .i64 kc, .int .i64 lc, .string sc, vc, .int .i64 kd, .int .i64 ld, .string sd, vd, .bool n2] rfl rfl 40 gdZ P5' (by kernel_rfl) rfl hy1 ?_
     refine hK.out _ _ (hS0 _ (.inr (below_setRow (below_setRow Z4.out.b P4.1 _) P5.1 _))) (fun hHeld => ?_)
     clear hK K
     try simp only [List.getElem_toArray, List.getElem_cons_succ, List.getElem_cons_zero, Act.put, List.setIfInBounds_toArray, List.set_cons_zero, List.set_cons_succ]
     refine wpAnyH_done (by kernel_rfl) ?_ _
     (try go_wp2_with fail)
     go_meet
     exact ⟨r4, r5, va, vb, vc, vd, rfl, rfl, ⟨ova, ovb, ovc, ovd⟩, S4.fin Z4.out hm4 hm5 hn _ _⟩
    refine AllReadyH.cons (o := { dst := some 6, op := Go.Op.alloc 40, type := 0, pos := "law.go:80", after := #[], guard := none }) rfl (fun K hK => ?_) AllReadyH.nil
    have Z3 := Lib.hid Z2.out.alloc
    go_simp
    refine hK.out _ _ (hS0 _ (.inr Z3.out.b)) (fun hHeld => ?_)
    clear hK K
    try simp only [List.getElem_toArray, List.getElem_cons_succ, List.getElem_cons_zero, Act.put, List.setIfInBounds_toArray, List.set_cons_zero, List.set_cons_succ]
    generalize v2.alloc _ = v3 at Z3 hHeld ⊢
    generalize v2.heap.size = r5 at Z3 ⊢
    refine wpAnyH_ready (rs := [3]) (by kernel_rfl) (by simp) ?_
    refine AllReadyH.cons (o := { dst := some 38, op := Go.Op.call { callee := Go.Callee.value (Go.Operand.func 12), args := #[Go.Operand.tmp 37], argTypes := #[31] }, type := 40, pos := "law.go:80", after := #[{ on := 2, ground := Go.Ground.data }, { on := 1, ground := Go.Ground.chain }], guard := none }) rfl (fun K hK => ?_) AllReadyH.nil
    go_simp
    go_wp2_with (go_at_call 12; refine (hR2 _ Z3.out.b).mono ?_; rintro e v4 ⟨vc, vd, rfl, ovc, ovd, t1, t2, bb⟩)
    have Z4 := Lib.hid (Z3.out.call bb t1 t2)
    refine hK.out _ _ (hS0 _ (.inr Z4.out.b)) (fun hHeld => ?_)
    clear hK K t1 t2 bb
    try simp only [List.getElem_toArray, List.getElem_cons_succ, List.getElem_cons_zero, Act.put, List.setIfInBounds_toArray, List.set_cons_zero, List.set_cons_succ]
    have hn : r4 ≠ r5 := fun e => by have hq := Z4.out.n; rw [e] at hq; simp at hq
    have hm4 : r4 ∈ [r5, r4] := by simp
    have hm5 : r5 ∈ [r5, r4] := by simp
    have P4 := Z4.out.r r4 hm4
    have P5 := Z4.out.r r5 hm5
    have hx1 : (#[.int .i64 ka, .int .i64 la, .string sa, va, .int .i64 kb, .int .i64 lb, .string sb, vb, .bool n1] : Array Value).all (·.oneCell') = true := ag_one _ _ _ _ _ _ _ _ _ ova.2 ovb.2
    have hy1 : (#[.int .i64 kc, .int .i64 lc, .string sc, vc, .int .i64 kd, .int .i64 ld, .string sd, vd, .bool n2] : Array Value).all (·.oneCell') = true := ag_one _ _ _ _ _ _ _ _ _ ovc.2 ovd.2
    refine wpAnyH_ready (rs := [6]) (by kernel_rfl) (by simp) ?_
    refine AllReadyH.cons (o := { dst := none, op := Go.Op.store 40 (Go.Operand.tmp 5) (Go.Operand.tmp 36), type := 0, pos := "law.go:80", after := #[{ on := 4, ground := Go.Ground.data }, { on := 1, ground := Go.Ground.data }, { on := 3, ground := Go.Ground.chain }, { on := 0, ground := Go.Ground.phase }, { on := 1, ground := Go.Ground.phase }, { on := 2, ground := Go.Ground.textOnly Go.Departure.lateStores }, { on := 3, ground := Go.Ground.textOnly Go.Departure.lateStoresUnsure }, { on := 4, ground := Go.Ground.phase }, { on := 5, ground := Go.Ground.phase }], guard := none }) rfl (fun K hK => ?_) AllReadyH.nil
    rw [if_pos (by rfl)]
    refine wp_store_row 40 _ _ rfl r4 #[.int .i64 ka, .int .i64 la, .string sa, va, .int .i64 kb, .int .i64 lb, .string sb, vb, .bool n1] rfl rfl 40 gdZ P4.2 (by kernel_rfl) rfl hx1 ?_
    refine hK.out _ _ (hS0 _ (.inr (below_setRow Z4.out.b P4.1 _))) (fun hHeld => ?_)
    clear hK K
    try simp only [List.getElem_toArray, List.getElem_cons_succ, List.getElem_cons_zero, Act.put, List.setIfInBounds_toArray, List.set_cons_zero, List.set_cons_succ]
    have P5' : Blk (v4.setRow r4 #[.int .i64 ka, .int .i64 la, .string sa, va, .int .i64 kb, .int .i64 lb, .string sb, vb, .bool n1]) r5 gdZ 40 := (setRow_other _ r4 r5 _ (fun e => hn e.symm)).trans P5.2
    refine wpAnyH_ready (rs := [7]) (by kernel_rfl) (by simp) ?_
    refine AllReadyH.cons (o := { dst := none, op := Go.Op.store 40 (Go.Operand.tmp 6) (Go.Operand.tmp 38), type := 0, pos := "law.go:80", after := #[{ on := 5, ground := Go.Ground.data }, { on := 3, ground := Go.Ground.data }, { on := 6, ground := Go.Ground.chain }, { on := 0, ground := Go.Ground.phase }, { on := 1, ground := Go.Ground.phase }, { on := 2, ground := Go.Ground.phase }, { on := 3, ground := Go.Ground.phase }, { on := 4, ground := Go.Ground.phase }, { on := 5, ground := Go.Ground.phase }, { on := 6, ground := Go.Ground.phase }], guard := none }) rfl (fun K hK => ?_) AllReadyH.nil
    rw [if_pos (by rfl)]
    refine wp_store_row 40 _ _ rfl r5 #[.int .i64 kc, .int .i64 lc, .string sc, vc, .int .i64 kd, .int .i64 ld, .string sd, vd, .bool n2] rfl rfl 40 gdZ P5' (by kernel_rfl) rfl hy1 ?_
    refine hK.out _ _ (hS0 _ (.inr (below_setRow (below_setRow Z4.out.b P4.1 _) P5.1 _))) (fun hHeld => ?_)
    clear hK K
    try simp only [List.getElem_toArray, List.getElem_cons_succ, List.getElem_cons_zero, Act.put, List.setIfInBounds_toArray, List.set_cons_zero, List.set_cons_succ]
    refine wpAnyH_done (by kernel_rfl) ?_ _
    (try go_wp2_with fail)
    go_meet
    exact ⟨r4, r5, va, vb, vc, vd, rfl, rfl, ⟨ova, ovb, ovc, ovd⟩, S4.fin Z4.out hm4 hm5 hn _ _⟩
   refine AllReadyH.cons (o := { dst := some 6, op := Go.Op.alloc 40, type := 0, pos := "law.go:80", after := #[], guard := none }) rfl (fun K hK => ?_) AllReadyH.nil
   have Z2 := Lib.hid Z1.out.alloc
   go_simp
   refine hK.out _ _ (hS0 _ (.inr Z2.out.b)) (fun hHeld => ?_)
   clear hK K
   try simp only [List.getElem_toArray, List.getElem_cons_succ, List.getElem_cons_zero, Act.put, List.setIfInBounds_toArray, List.set_cons_zero, List.set_cons_succ]
   generalize v1.alloc _ = v2 at Z2 hHeld ⊢
   generalize v1.heap.size = r5 at Z2 ⊢
   refine wpAnyH_ready (rs := [1]) (by kernel_rfl) (by simp) ?_
   refine AllReadyH.cons (o := { dst := some 36, op := Go.Op.call { callee := Go.Callee.value (Go.Operand.func 12), args := #[Go.Operand.tmp 35], argTypes := #[31] }, type := 40, pos := "law.go:80", after := #[{ on := 0, ground := Go.Ground.data }], guard := none }) rfl (fun K hK => ?_) AllReadyH.nil
   go_simp
   go_wp2_with (go_at_call 12; refine (hR1 _ Z2.out.b).mono ?_; rintro e v3 ⟨va, vb, rfl, ova, ovb, t1, t2, bb⟩)
   have Z3 := Lib.hid (Z2.out.call bb t1 t2)
   refine hK.out _ _ (hS0 _ (.inr Z3.out.b)) (fun hHeld => ?_)
   clear hK K t1 t2 bb
   try simp only [List.getElem_toArray, List.getElem_cons_succ, List.getElem_cons_zero, Act.put, List.setIfInBounds_toArray, List.set_cons_zero, List.set_cons_succ]
   refine wpAnyH_ready (rs := [3]) (by kernel_rfl) (by simp) ?_
   refine AllReadyH.cons (o := { dst := some 38, op := Go.Op.call { callee := Go.Callee.value (Go.Operand.func 12), args := #[Go.Operand.tmp 37], argTypes := #[31] }, type := 40, pos := "law.go:80", after := #[{ on := 2, ground := Go.Ground.data }, { on := 1, ground := Go.Ground.chain }], guard := none }) rfl (fun K hK => ?_) AllReadyH.nil
   go_simp
   go_wp2_with (go_at_call 12; refine (hR2 _ Z3.out.b).mono ?_; rintro e v4 ⟨vc, vd, rfl, ovc, ovd, t1, t2, bb⟩)
   have Z4 := Lib.hid (Z3.out.call bb t1 t2)
   refine hK.out _ _ (hS0 _ (.inr Z4.out.b)) (fun hHeld => ?_)
   clear hK K t1 t2 bb
   try simp only [List.getElem_toArray, List.getElem_cons_succ, List.getElem_cons_zero, Act.put, List.setIfInBounds_toArray, List.set_cons_zero, List.set_cons_succ]
   have hn : r4 ≠ r5 := fun e => by have hq := Z4.out.n; rw [e] at hq; simp at hq
   have hm4 : r4 ∈ [r5, r4] := by simp
   have hm5 : r5 ∈ [r5, r4] := by simp
   have P4 := Z4.out.r r4 hm4
   have P5 := Z4.out.r r5 hm5
   have hx1 : (#[.int .i64 ka, .int .i64 la, .string sa, va, .int .i64 kb, .int .i64 lb, .string sb, vb, .bool n1] : Array Value).all (·.oneCell') = true := ag_one _ _ _ _ _ _ _ _ _ ova.2 ovb.2
   have hy1 : (#[.int .i64 kc, .int .i64 lc, .string sc, vc, .int .i64 kd, .int .i64 ld, .string sd, vd, .bool n2] : Array Value).all (·.oneCell') = true := ag_one _ _ _ _ _ _ _ _ _ ovc.2 ovd.2
   refine wpAnyH_ready (rs := [6]) (by kernel_rfl) (by simp) ?_
   refine AllReadyH.cons (o := { dst := none, op := Go.Op.store 40 (Go.Operand.tmp 5) (Go.Operand.tmp 36), type := 0, pos := "law.go:80", after := #[{ on := 4, ground := Go.Ground.data }, { on := 1, ground := Go.Ground.data }, { on := 3, ground := Go.Ground.chain }, { on := 0, ground := Go.Ground.phase }, { on := 1, ground := Go.Ground.phase }, { on := 2, ground := Go.Ground.textOnly Go.Departure.lateStores }, { on := 3, ground := Go.Ground.textOnly Go.Departure.lateStoresUnsure }, { on := 4, ground := Go.Ground.phase }, { on := 5, ground := Go.Ground.phase }], guard := none }) rfl (fun K hK => ?_) AllReadyH.nil
   rw [if_pos (by rfl)]
   refine wp_store_row 40 _ _ rfl r4 #[.int .i64 ka, .int .i64 la, .string sa, va, .int .i64 kb, .int .i64 lb, .string sb, vb, .bool n1] rfl rfl 40 gdZ P4.2 (by kernel_rfl) rfl hx1 ?_
   refine hK.out _ _ (hS0 _ (.inr (below_setRow Z4.out.b P4.1 _))) (fun hHeld => ?_)
   clear hK K
   try simp only [List.getElem_toArray, List.getElem_cons_succ, List.getElem_cons_zero, Act.put, List.setIfInBounds_toArray, List.set_cons_zero, List.set_cons_succ]
   have P5' : Blk (v4.setRow r4 #[.int .i64 ka, .int .i64 la, .string sa, va, .int .i64 kb, .int .i64 lb, .string sb, vb, .bool n1]) r5 gdZ 40 := (setRow_other _ r4 r5 _ (fun e => hn e.symm)).trans P5.2
   refine wpAnyH_ready (rs := [7]) (by kernel_rfl) (by simp) ?_
   refine AllReadyH.cons (o := { dst := none, op := Go.Op.store 40 (Go.Operand.tmp 6) (Go.Operand.tmp 38), type := 0, pos := "law.go:80", after := #[{ on := 5, ground := Go.Ground.data }, { on := 3, ground := Go.Ground.data }, { on := 6, ground := Go.Ground.chain }, { on := 0, ground := Go.Ground.phase }, { on := 1, ground := Go.Ground.phase }, { on := 2, ground := Go.Ground.phase }, { on := 3, ground := Go.Ground.phase }, { on := 4, ground := Go.Ground.phase }, { on := 5, ground := Go.Ground.phase }, { on := 6, ground := Go.Ground.phase }], guard := none }) rfl (fun K hK => ?_) AllReadyH.nil
   rw [if_pos (by rfl)]
   refine wp_store_row 40 _ _ rfl r5 #[.int .i64 kc, .int .i64 lc, .string sc, vc, .int .i64 kd, .int .i64 ld, .string sd, vd, .bool n2] rfl rfl 40 gdZ P5' (by kernel_rfl) rfl hy1 ?_
   refine hK.out _ _ (hS0 _ (.inr (below_setRow (below_setRow Z4.out.b P4.1 _) P5.1 _))) (fun hHeld => ?_)
   clear hK K
   try simp only [List.getElem_toArray, List.getElem_cons_succ, List.getElem_cons_zero, Act.put, List.setIfInBounds_toArray, List.set_cons_zero, List.set_cons_succ]
   refine wpAnyH_done (by kernel_rfl) ?_ _
   (try go_wp2_with fail)
   go_meet
   exact ⟨r4, r5, va, vb, vc, vd, rfl, rfl, ⟨ova, ovb, ovc, ovd⟩, S4.fin Z4.out hm4 hm5 hn _ _⟩
  refine AllReadyH.cons (o := { dst := some 6, op := Go.Op.alloc 40, type := 0, pos := "law.go:80", after := #[], guard := none }) rfl (fun K hK => ?_) AllReadyH.nil
  have Z1 := Lib.hid Z0.out.alloc
  go_simp
  refine hK.out _ _ (hS0 _ (.inr Z1.out.b)) (fun hHeld => ?_)
  clear hK K
  try simp only [List.getElem_toArray, List.getElem_cons_succ, List.getElem_cons_zero, Act.put, List.setIfInBounds_toArray, List.set_cons_zero, List.set_cons_succ]
  generalize v0.alloc _ = v1 at Z1 hHeld ⊢
  generalize v0.heap.size = r5 at Z1 ⊢
  refine wpAnyH_ready (rs := [1, 4]) (by kernel_rfl) (by simp) ?_
  refine AllReadyH.cons (o := { dst := some 36, op := Go.Op.call { callee := Go.Callee.value (Go.Operand.func 12), args := #[Go.Operand.tmp 35], argTypes := #[31] }, type := 40, pos := "law.go:80", after := #[{ on := 0, ground := Go.Ground.data }], guard := none }) rfl (fun K hK => ?_) ?_
  ·go_simp
   go_wp2_with (go_at_call 12; refine (hR1 _ Z1.out.b).mono ?_; rintro e v2 ⟨va, vb, rfl, ova, ovb, t1, t2, bb⟩)
   have Z2 := Lib.hid (Z1.out.call bb t1 t2)
   refine hK.out _ _ (hS0 _ (.inr Z2.out.b)) (fun hHeld => ?_)
   clear hK K t1 t2 bb
   try simp only [List.getElem_toArray, List.getElem_cons_succ, List.getElem_cons_zero, Act.put, List.setIfInBounds_toArray, List.set_cons_zero, List.set_cons_succ]
   refine wpAnyH_ready (rs := [3, 4]) (by kernel_rfl) (by simp) ?_
   refine AllReadyH.cons (o := { dst := some 38, op := Go.Op.call { callee := Go.Callee.value (Go.Operand.func 12), args := #[Go.Operand.tmp 37], argTypes := #[31] }, type := 40, pos := "law.go:80", after := #[{ on := 2, ground := Go.Ground.data }, { on := 1, ground := Go.Ground.chain }], guard := none }) rfl (fun K hK => ?_) ?_
   ·go_simp
    go_wp2_with (go_at_call 12; refine (hR2 _ Z2.out.b).mono ?_; rintro e v3 ⟨vc, vd, rfl, ovc, ovd, t1, t2, bb⟩)
    have Z3 := Lib.hid (Z2.out.call bb t1 t2)
    refine hK.out _ _ (hS0 _ (.inr Z3.out.b)) (fun hHeld => ?_)
    clear hK K t1 t2 bb
    try simp only [List.getElem_toArray, List.getElem_cons_succ, List.getElem_cons_zero, Act.put, List.setIfInBounds_toArray, List.set_cons_zero, List.set_cons_succ]
    refine wpAnyH_ready (rs := [4]) (by kernel_rfl) (by simp) ?_
    refine AllReadyH.cons (o := { dst := some 5, op := Go.Op.alloc 40, type := 0, pos := "law.go:80", after := #[], guard := none }) rfl (fun K hK => ?_) AllReadyH.nil
    have Z4 := Lib.hid Z3.out.alloc
    go_simp
    refine hK.out _ _ (hS0 _ (.inr Z4.out.b)) (fun hHeld => ?_)
    clear hK K
    try simp only [List.getElem_toArray, List.getElem_cons_succ, List.getElem_cons_zero, Act.put, List.setIfInBounds_toArray, List.set_cons_zero, List.set_cons_succ]
    generalize v3.alloc _ = v4 at Z4 hHeld ⊢
    generalize v3.heap.size = r4 at Z4 ⊢
    have hn : r4 ≠ r5 := fun e => by have hq := Z4.out.n; rw [e] at hq; simp at hq
    have hm4 : r4 ∈ [r4, r5] := by simp
    have hm5 : r5 ∈ [r4, r5] := by simp
    have P4 := Z4.out.r r4 hm4
    have P5 := Z4.out.r r5 hm5
    have hx1 : (#[.int .i64 ka, .int .i64 la, .string sa, va, .int .i64 kb, .int .i64 lb, .string sb, vb, .bool n1] : Array Value).all (·.oneCell') = true := ag_one _ _ _ _ _ _ _ _ _ ova.2 ovb.2
    have hy1 : (#[.int .i64 kc, .int .i64 lc, .string sc, vc, .int .i64 kd, .int .i64 ld, .string sd, vd, .bool n2] : Array Value).all (·.oneCell') = true := ag_one _ _ _ _ _ _ _ _ _ ovc.2 ovd.2
    refine wpAnyH_ready (rs := [6]) (by kernel_rfl) (by simp) ?_
    refine AllReadyH.cons (o := { dst := none, op := Go.Op.store 40 (Go.Operand.tmp 5) (Go.Operand.tmp 36), type := 0, pos := "law.go:80", after := #[{ on := 4, ground := Go.Ground.data }, { on := 1, ground := Go.Ground.data }, { on := 3, ground := Go.Ground.chain }, { on := 0, ground := Go.Ground.phase }, { on := 1, ground := Go.Ground.phase }, { on := 2, ground := Go.Ground.textOnly Go.Departure.lateStores }, { on := 3, ground := Go.Ground.textOnly Go.Departure.lateStoresUnsure }, { on := 4, ground := Go.Ground.phase }, { on := 5, ground := Go.Ground.phase }], guard := none }) rfl (fun K hK => ?_) AllReadyH.nil
    rw [if_pos (by rfl)]
    refine wp_store_row 40 _ _ rfl r4 #[.int .i64 ka, .int .i64 la, .string sa, va, .int .i64 kb, .int .i64 lb, .string sb, vb, .bool n1] rfl rfl 40 gdZ P4.2 (by kernel_rfl) rfl hx1 ?_
    refine hK.out _ _ (hS0 _ (.inr (below_setRow Z4.out.b P4.1 _))) (fun hHeld => ?_)
    clear hK K
    try simp only [List.getElem_toArray, List.getElem_cons_succ, List.getElem_cons_zero, Act.put, List.setIfInBounds_toArray, List.set_cons_zero, List.set_cons_succ]
    have P5' : Blk (v4.setRow r4 #[.int .i64 ka, .int .i64 la, .string sa, va, .int .i64 kb, .int .i64 lb, .string sb, vb, .bool n1]) r5 gdZ 40 := (setRow_other _ r4 r5 _ (fun e => hn e.symm)).trans P5.2
    refine wpAnyH_ready (rs := [7]) (by kernel_rfl) (by simp) ?_
    refine AllReadyH.cons (o := { dst := none, op := Go.Op.store 40 (Go.Operand.tmp 6) (Go.Operand.tmp 38), type := 0, pos := "law.go:80", after := #[{ on := 5, ground := Go.Ground.data }, { on := 3, ground := Go.Ground.data }, { on := 6, ground := Go.Ground.chain }, { on := 0, ground := Go.Ground.phase }, { on := 1, ground := Go.Ground.phase }, { on := 2, ground := Go.Ground.phase }, { on := 3, ground := Go.Ground.phase }, { on := 4, ground := Go.Ground.phase }, { on := 5, ground := Go.Ground.phase }, { on := 6, ground := Go.Ground.phase }], guard := none }) rfl (fun K hK => ?_) AllReadyH.nil
    rw [if_pos (by rfl)]
    refine wp_store_row 40 _ _ rfl r5 #[.int .i64 kc, .int .i64 lc, .string sc, vc, .int .i64 kd, .int .i64 ld, .string sd, vd, .bool n2] rfl rfl 40 gdZ P5' (by kernel_rfl) rfl hy1 ?_
    refine hK.out _ _ (hS0 _ (.inr (below_setRow (below_setRow Z4.out.b P4.1 _) P5.1 _))) (fun hHeld => ?_)
    clear hK K
    try simp only [List.getElem_toArray, List.getElem_cons_succ, List.getElem_cons_zero, Act.put, List.setIfInBounds_toArray, List.set_cons_zero, List.set_cons_succ]
    refine wpAnyH_done (by kernel_rfl) ?_ _
    (try go_wp2_with fail)
    go_meet
    exact ⟨r4, r5, va, vb, vc, vd, rfl, rfl, ⟨ova, ovb, ovc, ovd⟩, S4.fin Z4.out hm4 hm5 hn _ _⟩
   refine AllReadyH.cons (o := { dst := some 5, op := Go.Op.alloc 40, type := 0, pos := "law.go:80", after := #[], guard := none }) rfl (fun K hK => ?_) AllReadyH.nil
   have Z3 := Lib.hid Z2.out.alloc
   go_simp
   refine hK.out _ _ (hS0 _ (.inr Z3.out.b)) (fun hHeld => ?_)
   clear hK K
   try simp only [List.getElem_toArray, List.getElem_cons_succ, List.getElem_cons_zero, Act.put, List.setIfInBounds_toArray, List.set_cons_zero, List.set_cons_succ]
   generalize v2.alloc _ = v3 at Z3 hHeld ⊢
   generalize v2.heap.size = r4 at Z3 ⊢
   refine wpAnyH_ready (rs := [3]) (by kernel_rfl) (by simp) ?_
   refine AllReadyH.cons (o := { dst := some 38, op := Go.Op.call { callee := Go.Callee.value (Go.Operand.func 12), args := #[Go.Operand.tmp 37], argTypes := #[31] }, type := 40, pos := "law.go:80", after := #[{ on := 2, ground := Go.Ground.data }, { on := 1, ground := Go.Ground.chain }], guard := none }) rfl (fun K hK => ?_) AllReadyH.nil
   go_simp
   go_wp2_with (go_at_call 12; refine (hR2 _ Z3.out.b).mono ?_; rintro e v4 ⟨vc, vd, rfl, ovc, ovd, t1, t2, bb⟩)
   have Z4 := Lib.hid (Z3.out.call bb t1 t2)
   refine hK.out _ _ (hS0 _ (.inr Z4.out.b)) (fun hHeld => ?_)
   clear hK K t1 t2 bb
   try simp only [List.getElem_toArray, List.getElem_cons_succ, List.getElem_cons_zero, Act.put, List.setIfInBounds_toArray, List.set_cons_zero, List.set_cons_succ]
   have hn : r4 ≠ r5 := fun e => by have hq := Z4.out.n; rw [e] at hq; simp at hq
   have hm4 : r4 ∈ [r4, r5] := by simp
   have hm5 : r5 ∈ [r4, r5] := by simp
   have P4 := Z4.out.r r4 hm4
   have P5 := Z4.out.r r5 hm5
   have hx1 : (#[.int .i64 ka, .int .i64 la, .string sa, va, .int .i64 kb, .int .i64 lb, .string sb, vb, .bool n1] : Array Value).all (·.oneCell') = true := ag_one _ _ _ _ _ _ _ _ _ ova.2 ovb.2
   have hy1 : (#[.int .i64 kc, .int .i64 lc, .string sc, vc, .int .i64 kd, .int .i64 ld, .string sd, vd, .bool n2] : Array Value).all (·.oneCell') = true := ag_one _ _ _ _ _ _ _ _ _ ovc.2 ovd.2
   refine wpAnyH_ready (rs := [6]) (by kernel_rfl) (by simp) ?_
   refine AllReadyH.cons (o := { dst := none, op := Go.Op.store 40 (Go.Operand.tmp 5) (Go.Operand.tmp 36), type := 0, pos := "law.go:80", after := #[{ on := 4, ground := Go.Ground.data }, { on := 1, ground := Go.Ground.data }, { on := 3, ground := Go.Ground.chain }, { on := 0, ground := Go.Ground.phase }, { on := 1, ground := Go.Ground.phase }, { on := 2, ground := Go.Ground.textOnly Go.Departure.lateStores }, { on := 3, ground := Go.Ground.textOnly Go.Departure.lateStoresUnsure }, { on := 4, ground := Go.Ground.phase }, { on := 5, ground := Go.Ground.phase }], guard := none }) rfl (fun K hK => ?_) AllReadyH.nil
   rw [if_pos (by rfl)]
   refine wp_store_row 40 _ _ rfl r4 #[.int .i64 ka, .int .i64 la, .string sa, va, .int .i64 kb, .int .i64 lb, .string sb, vb, .bool n1] rfl rfl 40 gdZ P4.2 (by kernel_rfl) rfl hx1 ?_
   refine hK.out _ _ (hS0 _ (.inr (below_setRow Z4.out.b P4.1 _))) (fun hHeld => ?_)
   clear hK K
   try simp only [List.getElem_toArray, List.getElem_cons_succ, List.getElem_cons_zero, Act.put, List.setIfInBounds_toArray, List.set_cons_zero, List.set_cons_succ]
   have P5' : Blk (v4.setRow r4 #[.int .i64 ka, .int .i64 la, .string sa, va, .int .i64 kb, .int .i64 lb, .string sb, vb, .bool n1]) r5 gdZ 40 := (setRow_other _ r4 r5 _ (fun e => hn e.symm)).trans P5.2
   refine wpAnyH_ready (rs := [7]) (by kernel_rfl) (by simp) ?_
   refine AllReadyH.cons (o := { dst := none, op := Go.Op.store 40 (Go.Operand.tmp 6) (Go.Operand.tmp 38), type := 0, pos := "law.go:80", after := #[{ on := 5, ground := Go.Ground.data }, { on := 3, ground := Go.Ground.data }, { on := 6, ground := Go.Ground.chain }, { on := 0, ground := Go.Ground.phase }, { on := 1, ground := Go.Ground.phase }, { on := 2, ground := Go.Ground.phase }, { on := 3, ground := Go.Ground.phase }, { on := 4, ground := Go.Ground.phase }, { on := 5, ground := Go.Ground.phase }, { on := 6, ground := Go.Ground.phase }], guard := none }) rfl (fun K hK => ?_) AllReadyH.nil
   rw [if_pos (by rfl)]
   refine wp_store_row 40 _ _ rfl r5 #[.int .i64 kc, .int .i64 lc, .string sc, vc, .int .i64 kd, .int .i64 ld, .string sd, vd, .bool n2] rfl rfl 40 gdZ P5' (by kernel_rfl) rfl hy1 ?_
   refine hK.out _ _ (hS0 _ (.inr (below_setRow (below_setRow Z4.out.b P4.1 _) P5.1 _))) (fun hHeld => ?_)
   clear hK K
   try simp only [List.getElem_toArray, List.getElem_cons_succ, List.getElem_cons_zero, Act.put, List.setIfInBounds_toArray, List.set_cons_zero, List.set_cons_succ]
   refine wpAnyH_done (by kernel_rfl) ?_ _
   (try go_wp2_with fail)
   go_meet
   exact ⟨r4, r5, va, vb, vc, vd, rfl, rfl, ⟨ova, ovb, ovc, ovd⟩, S4.fin Z4.out hm4 hm5 hn _ _⟩
  refine AllReadyH.cons (o := { dst := some 5, op := Go.Op.alloc 40, type := 0, pos := "law.go:80", after := #[], guard := none }) rfl (fun K hK => ?_) AllReadyH.nil
  have Z2 := Lib.hid Z1.out.alloc
  go_simp
  refine hK.out _ _ (hS0 _ (.inr Z2.out.b)) (fun hHeld => ?_)
  clear hK K
  try simp only [List.getElem_toArray, List.getElem_cons_succ, List.getElem_cons_zero, Act.put, List.setIfInBounds_toArray, List.set_cons_zero, List.set_cons_succ]
  generalize v1.alloc _ = v2 at Z2 hHeld ⊢
  generalize v1.heap.size = r4 at Z2 ⊢
  refine wpAnyH_ready (rs := [1]) (by kernel_rfl) (by simp) ?_
  refine AllReadyH.cons (o := { dst := some 36, op := Go.Op.call { callee := Go.Callee.value (Go.Operand.func 12), args := #[Go.Operand.tmp 35], argTypes := #[31] }, type := 40, pos := "law.go:80", after := #[{ on := 0, ground := Go.Ground.data }], guard := none }) rfl (fun K hK => ?_) AllReadyH.nil
  go_simp
  go_wp2_with (go_at_call 12; refine (hR1 _ Z2.out.b).mono ?_; rintro e v3 ⟨va, vb, rfl, ova, ovb, t1, t2, bb⟩)
  have Z3 := Lib.hid (Z2.out.call bb t1 t2)
  refine hK.out _ _ (hS0 _ (.inr Z3.out.b)) (fun hHeld => ?_)
  clear hK K t1 t2 bb
  try simp only [List.getElem_toArray, List.getElem_cons_succ, List.getElem_cons_zero, Act.put, List.setIfInBounds_toArray, List.set_cons_zero, List.set_cons_succ]
  refine wpAnyH_ready (rs := [3]) (by kernel_rfl) (by simp) ?_
  refine AllReadyH.cons (o := { dst := some 38, op := Go.Op.call { callee := Go.Callee.value (Go.Operand.func 12), args := #[Go.Operand.tmp 37], argTypes := #[31] }, type := 40, pos := "law.go:80", after := #[{ on := 2, ground := Go.Ground.data }, { on := 1, ground := Go.Ground.chain }], guard := none }) rfl (fun K hK => ?_) AllReadyH.nil
  go_simp
  go_wp2_with (go_at_call 12; refine (hR2 _ Z3.out.b).mono ?_; rintro e v4 ⟨vc, vd, rfl, ovc, ovd, t1, t2, bb⟩)
  have Z4 := Lib.hid (Z3.out.call bb t1 t2)
  refine hK.out _ _ (hS0 _ (.inr Z4.out.b)) (fun hHeld => ?_)
  clear hK K t1 t2 bb
  try simp only [List.getElem_toArray, List.getElem_cons_succ, List.getElem_cons_zero, Act.put, List.setIfInBounds_toArray, List.set_cons_zero, List.set_cons_succ]
  have hn : r4 ≠ r5 := fun e => by have hq := Z4.out.n; rw [e] at hq; simp at hq
  have hm4 : r4 ∈ [r4, r5] := by simp
  have hm5 : r5 ∈ [r4, r5] := by simp
  have P4 := Z4.out.r r4 hm4
  have P5 := Z4.out.r r5 hm5
  have hx1 : (#[.int .i64 ka, .int .i64 la, .string sa, va, .int .i64 kb, .int .i64 lb, .string sb, vb, .bool n1] : Array Value).all (·.oneCell') = true := ag_one _ _ _ _ _ _ _ _ _ ova.2 ovb.2
  have hy1 : (#[.int .i64 kc, .int .i64 lc, .string sc, vc, .int .i64 kd, .int .i64 ld, .string sd, vd, .bool n2] : Array Value).all (·.oneCell') = true := ag_one _ _ _ _ _ _ _ _ _ ovc.2 ovd.2
  refine wpAnyH_ready (rs := [6]) (by kernel_rfl) (by simp) ?_
  refine AllReadyH.cons (o := { dst := none, op := Go.Op.store 40 (Go.Operand.tmp 5) (Go.Operand.tmp 36), type := 0, pos := "law.go:80", after := #[{ on := 4, ground := Go.Ground.data }, { on := 1, ground := Go.Ground.data }, { on := 3, ground := Go.Ground.chain }, { on := 0, ground := Go.Ground.phase }, { on := 1, ground := Go.Ground.phase }, { on := 2, ground := Go.Ground.textOnly Go.Departure.lateStores }, { on := 3, ground := Go.Ground.textOnly Go.Departure.lateStoresUnsure }, { on := 4, ground := Go.Ground.phase }, { on := 5, ground := Go.Ground.phase }], guard := none }) rfl (fun K hK => ?_) AllReadyH.nil
  rw [if_pos (by rfl)]
  refine wp_store_row 40 _ _ rfl r4 #[.int .i64 ka, .int .i64 la, .string sa, va, .int .i64 kb, .int .i64 lb, .string sb, vb, .bool n1] rfl rfl 40 gdZ P4.2 (by kernel_rfl) rfl hx1 ?_
  refine hK.out _ _ (hS0 _ (.inr (below_setRow Z4.out.b P4.1 _))) (fun hHeld => ?_)
  clear hK K
  try simp only [List.getElem_toArray, List.getElem_cons_succ, List.getElem_cons_zero, Act.put, List.setIfInBounds_toArray, List.set_cons_zero, List.set_cons_succ]
  have P5' : Blk (v4.setRow r4 #[.int .i64 ka, .int .i64 la, .string sa, va, .int .i64 kb, .int .i64 lb, .string sb, vb, .bool n1]) r5 gdZ 40 := (setRow_other _ r4 r5 _ (fun e => hn e.symm)).trans P5.2
  refine wpAnyH_ready (rs := [7]) (by kernel_rfl) (by simp) ?_
  refine AllReadyH.cons (o := { dst := none, op := Go.Op.store 40 (Go.Operand.tmp 6) (Go.Operand.tmp 38), type := 0, pos := "law.go:80", after := #[{ on := 5, ground := Go.Ground.data }, { on := 3, ground := Go.Ground.data }, { on := 6, ground := Go.Ground.chain }, { on := 0, ground := Go.Ground.phase }, { on := 1, ground := Go.Ground.phase }, { on := 2, ground := Go.Ground.phase }, { on := 3, ground := Go.Ground.phase }, { on := 4, ground := Go.Ground.phase }, { on := 5, ground := Go.Ground.phase }, { on := 6, ground := Go.Ground.phase }], guard := none }) rfl (fun K hK => ?_) AllReadyH.nil
  rw [if_pos (by rfl)]
  refine wp_store_row 40 _ _ rfl r5 #[.int .i64 kc, .int .i64 lc, .string sc, vc, .int .i64 kd, .int .i64 ld, .string sd, vd, .bool n2] rfl rfl 40 gdZ P5' (by kernel_rfl) rfl hy1 ?_
  refine hK.out _ _ (hS0 _ (.inr (below_setRow (below_setRow Z4.out.b P4.1 _) P5.1 _))) (fun hHeld => ?_)
  clear hK K
  try simp only [List.getElem_toArray, List.getElem_cons_succ, List.getElem_cons_zero, Act.put, List.setIfInBounds_toArray, List.set_cons_zero, List.set_cons_succ]
  refine wpAnyH_done (by kernel_rfl) ?_ _
  (try go_wp2_with fail)
  go_meet
  exact ⟨r4, r5, va, vb, vc, vd, rfl, rfl, ⟨ova, ovb, ovc, ovd⟩, S4.fin Z4.out hm4 hm5 hn _ _⟩
 case rest =>
  obtain ⟨x, y, va, vb, vc, vd, rfl, rfl, ⟨ova, ovb, ovc, ovd⟩, h5⟩ := hcut
  obtain ⟨wq, rfl⟩ : ∃ wq, wq = wc := ⟨_, rfl⟩
  obtain ⟨k1, rfl⟩ : ∃ k : Nat, ka = k := ⟨ka.toNat, by omega⟩
  obtain ⟨k2, rfl⟩ : ∃ k : Nat, kb = k := ⟨kb.toNat, by omega⟩
  obtain ⟨k3, rfl⟩ : ∃ k : Nat, kc = k := ⟨kc.toNat, by omega⟩
  obtain ⟨k4, rfl⟩ : ∃ k : Nat, kd = k := ⟨kd.toNat, by omega⟩
  have HX5 := Lib.hid (H.out.step h5.b)
  have H5 := Lib.hid h5
  obtain ⟨⟨a0, a1, a2, a3, a4, a5, a6, a7, a8⟩, _, _, _, _, _, _, _, _, _, hal⟩ := blk9v h5.qx
  have t1 := h5.t (drTree k1 ta, va) (by simp)
  have t2 := h5.t (drTree k2 tb, vb) (by simp)
  have sh1 := t1.shape
  have sh2 := t2.shape
  clear h5 t1 t2 hR1 hR2 hS0
  go_upto_region 4 with fail
  go_cut [7] (fun s7 wx => ∃ z, s7 = .pointer (some ⟨z, 0, none⟩) ∧ wq.heap.size ≤ z ∧ Blk wx z #[.int .i64 (k1 : Int), .int .i64 la, .string sa, va, .int .i64 (k2 : Int), .int .i64 lb, .string sb, vb, .bool n1] 40 ∧ Below wq.heap.size wq wx)
  case first =>
   clear ova ovb ovc ovd HX5 H5
   rcases sh1 with ⟨T8, q8, rfl⟩ | rfl <;> rcases sh2 with ⟨T9, q9, rfl⟩ | rfl
   all_goals
    go_wp2_with fail
    go_meet
    exact ⟨_, rfl, Nat.le_refl _, blkOfAlloc rfl, belowOfAlloc rfl⟩
  case rest =>
   obtain ⟨z, rfl, hz0, hz1, hz2⟩ := hcut
   clear a0 a1 a2 a3 a4 a5 a6 a7 a8 hal sh1 sh2
   obtain ⟨⟨y0, y1, y2, y3, y4, y5, y6, y7, y8⟩, f0, f1, f2, f3, f4, f5, f6, f7, f8, hzl⟩ := blk9v hz1
   have zs : sa.size ≤ 300 := z1
   have HZ1 := Lib.hid hz1
   have HZ0 := Lib.hid hz0
   have HZ2 := Lib.hid hz2
   clear hz0 hz1 hz2
   go_upto_region 6 with fail
   have BZ := Lib.hid (HZ2.out.setCell (p := ⟨z, 2, none⟩) HZ0.out (.string (sa ++ ⟨#[63]⟩)))
   have QZ := Lib.hid (show Blk (wc.setCell ⟨z, 2, none⟩ (.string (sa ++ ⟨#[63]⟩))) z #[.int .i64 (k1 : Int), .int .i64 la, .string (sa ++ ⟨#[63]⟩), va, .int .i64 (k2 : Int), .int .i64 lb, .string sb, vb, .bool n1] 40 from HZ1.out.set 2 _)
   clear y0 y1 y2 y3 y4 y5 y6 y7 y8 f0 f1 f2 f3 f4 f5 f6 f7 f8 hzl
   generalize wc.setCell ⟨z, 2, none⟩ (.string (sa ++ ⟨#[63]⟩)) = wz at BZ QZ ⊢
   have QX := Lib.hid (H5.out.qx.below BZ.out H5.out.qx.lt)
   have QY := Lib.hid (H5.out.qy.below BZ.out H5.out.qy.lt)
   have QH := Lib.hid (HX5.out.step BZ.out)
   have hT : ∀ {t v}, (t, v) ∈ [(drTree k3 tc, vc), (drTree k4 td, vd), (drTree k1 ta, va), (drTree k2 tb, vb)] → TrO (fun b => b < wz.heap.size) wz t v := fun {t v} hm => TrO.keep BZ.out.size (fun b _ hl => ⟨Nat.lt_of_lt_of_le hl BZ.out.size, fun o => BZ.out.cell (p := ⟨b, o, none⟩) hl⟩) (H5.out.t (t, v) hm)
   have T1 := hT (t := drTree k1 ta) (v := va) (by simp)
   have T2 := hT (t := drTree k2 tb) (v := vb) (by simp)
   have T3 := hT (t := drTree k3 tc) (v := vc) (by simp)
   have T4 := hT (t := drTree k4 td) (v := vd) (by simp)
   clear hT
   obtain ⟨e1, e2, e3, e4⟩ := HD.out
   obtain ⟨g1, g2, g3, g4⟩ := HZ.out
   have s1 := nsize_tall ta
   have s2 := nsize_tall tb
   have s3 := nsize_tall tc
   have s4 := nsize_tall td
   have d1 := trd_up (M := N1 + N2 + N3 + N4) (by omega) (e1.below QH.out.b)
   have d2 := trd_up (M := N1 + N2 + N3 + N4) (by omega) (e2.below QH.out.b)
   have d3 := trd_up (M := N1 + N2 + N3 + N4) (by omega) (e3.below QH.out.b)
   have d4 := trd_up (M := N1 + N2 + N3 + N4) (by omega) (e4.below QH.out.b)
   have i1 := fine_dd k1 ta (by omega)
   have i2 := fine_dd k2 tb (by omega)
   have i3 := fine_dd k3 tc (by omega)
   have i4 := fine_dd k4 td (by omega)
   have hC1 := fun W' (hb : Below wz.heap.size wz W') => psameJ_any ⟨⟨k1, 0, [], drTree k1 ta⟩, ⟨k2, 0, [], drTree k2 tb⟩, n1⟩ ⟨⟨k3, 0, [], drTree k3 tc⟩, ⟨k4, 0, [], drTree k4 td⟩, n2⟩ la lb lc ld sa sb sc sd va vb vc vd W' ⟨tro_up hb T1, tro_up hb T2, tro_up hb T3, tro_up hb T4⟩ i1 i2 i3 i4
   have hC2 := fun W' (hb : Below wz.heap.size wz W') => dsameG_any (N1 + N2 + N3 + N4) k1 la sa ta aa ca k2 lb sb tb ab cb n1 k3 lc sc tc ac cc k4 ld sd td ad cd n2 W' (d1.below hb) (d2.below hb) (d3.below hb) (d4.below hb) u1 u2 u3 u4
   have hC3 := fun W' (hb : Below wz.heap.size wz W') => psameI_any ⟨k1, 0, [], drTree k1 ta⟩ ⟨k4, 0, [], drTree k4 td⟩ la ld sa sd va vd W' (tro_up hb T1) (tro_up hb T4) i1 i4
   have hC4 := fun W' (hb : Below wz.heap.size wz W') => dsame_any (N1 + N2 + N3 + N4) k1 la k4 ld sa sd ta td aa ad ca cd W' (d1.below hb) (d4.below hb) u1 u4
   have hC5 := fun W' (hb : Below wz.heap.size wz W') => psameJ_any ⟨⟨k1, 0, [], drTree k1 ta⟩, ⟨k2, 0, [], drTree k2 tb⟩, n1⟩ ⟨⟨k1, 0, [], drTree k1 ta⟩, ⟨k2, 0, [], drTree k2 tb⟩, n1⟩ la lb la lb sa sb (sa ++ ⟨#[63]⟩) sb va vb va vb W' ⟨tro_up hb T1, tro_up hb T2, tro_up hb T1, tro_up hb T2⟩ i1 i2 i1 i2
   have hC6 := fun W' (hb : Below wz.heap.size wz W') => psameJ_any ⟨⟨k3, 0, [], drTree k3 tc⟩, ⟨k4, 0, [], drTree k4 td⟩, n2⟩ ⟨⟨k3, 0, [], drTree k3 tc⟩, ⟨k4, 0, [], drTree k4 td⟩, n2⟩ lc ld lc ld sc sd sc sd vc vd vc vd W' ⟨tro_up hb T3, tro_up hb T4, tro_up hb T3, tro_up hb T4⟩ i3 i4 i3 i4
   unfold gdSameI at hC1 hC5 hC6
   simp only [same_dd] at hC1 hC3
   simp only [decide_true, same_self, beq_self_eq_true, Bool.and_self] at hC5 hC6
   have hcc : ∀ a b c : Bool, (a && (b && c)) = (c && (a && b)) := by decide
   simp only [hcc _ _ (n1 == n2)] at hC2
   unfold dgA at hC2
   unfold daA at hC4
   clear d1 d2 d3 d4 i1 i2 i3 i4 T1 T2 T3 T4 e1 e2 e3 e4 g1 g2 g3 g4 s1 s2 s3 s4 hcc
   obtain ⟨B1, hB1⟩ : ∃ B, (n1 == n2 && (ddSame k1 k3 (decide (la = lc)) (nsame (canon ta) (canon tc)) && ddSame k2 k4 (decide (lb = ld)) (nsame (canon tb) (canon td)))) = B := ⟨_, rfl⟩
   obtain ⟨B2, hB2⟩ : ∃ B, ddSame k1 k4 (decide (la = ld)) (nsame (canon ta) (canon td)) = B := ⟨_, rfl⟩
   simp only [hB1] at hC1 hC2
   simp only [hB2] at hC3 hC4
   clear hB1 hB2
   refine wp_region_held_drew (S := fun W' : World => Below wz.heap.size wz W') hmix (Below.refl _ _).drew (fun hHeld => ?_)
   refine wpAnyH_take (i := 0) (oi := { dst := some 46, op := Go.Op.load 40 (Go.Operand.tmp 5), type := 40, pos := "law.go:83", after := #[], guard := none }) (v := .agg #[.int .i64 (k1 : Int), .int .i64 la, .string sa, va, .int .i64 (k2 : Int), .int .i64 lb, .string sb, vb, .bool n1]) rfl (by kernel_rfl) (by kernel_rfl) (by kernel_rfl) (fun _ _ _ h => h) (Or.inl ⟨by rfl, ?_⟩) hHeld ?_
   ·intro W' hSw; exact run_load_blk 40 _ rfl _ rfl (QX.out.below hSw QX.out.lt) Tryz.underlying40 (by kernel_rfl)
   try simp only [List.getElem_toArray, List.getElem_cons_succ, List.getElem_cons_zero, Act.put, List.setIfInBounds_toArray, List.set_cons_zero, List.set_cons_succ]
   refine wpAnyH_take (i := 1) (oi := { dst := some 47, op := Go.Op.load 40 (Go.Operand.tmp 6), type := 40, pos := "law.go:83", after := #[], guard := none }) (v := .agg #[.int .i64 (k3 : Int), .int .i64 lc, .string sc, vc, .int .i64 (k4 : Int), .int .i64 ld, .string sd, vd, .bool n2]) rfl (by kernel_rfl) (by kernel_rfl) (by kernel_rfl) (fun _ _ _ h => h) (Or.inl ⟨by rfl, ?_⟩) hHeld ?_
   ·intro W' hSw; exact run_load_blk 40 _ rfl _ rfl (QY.out.below hSw QY.out.lt) Tryz.underlying40 (by kernel_rfl)
   try simp only [List.getElem_toArray, List.getElem_cons_succ, List.getElem_cons_zero, Act.put, List.setIfInBounds_toArray, List.set_cons_zero, List.set_cons_succ]
   refine wpAnyH_take (i := 3) (oi := { dst := some 49, op := Go.Op.load 31 (Go.Operand.tmp 2), type := 31, pos := "law.go:83", after := #[], guard := none }) (v := .agg #[.int .i64 (k1 : Int), .int .i64 la, .string sa, .int .i64 ta.kind, .int .u64 (ow ta.set 0), .int .u64 (ow ta.set 1), .int .u64 (ow ta.set 2), .int .u64 (ow ta.set 3), .slice aa ta.parts.length ca, .int .i64 ta.mn, .int .i64 ta.mx, .int .i64 ta.num, .int .i64 (k2 : Int), .int .i64 lb, .string sb, .int .i64 tb.kind, .int .u64 (ow tb.set 0), .int .u64 (ow tb.set 1), .int .u64 (ow tb.set 2), .int .u64 (ow tb.set 3), .slice ab tb.parts.length cb, .int .i64 tb.mn, .int .i64 tb.mx, .int .i64 tb.num, .bool n1]) rfl (by kernel_rfl) (by kernel_rfl) (by kernel_rfl) (fun _ _ _ h => h) (Or.inl ⟨by rfl, ?_⟩) hHeld ?_
   ·intro W' hSw; exact run_load_blk 31 _ rfl _ rfl (QH.out.step hSw).x Tryz.underlying31 (by kernel_rfl)
   try simp only [List.getElem_toArray, List.getElem_cons_succ, List.getElem_cons_zero, Act.put, List.setIfInBounds_toArray, List.set_cons_zero, List.set_cons_succ]
   refine wpAnyH_take (i := 4) (oi := { dst := some 50, op := Go.Op.load 31 (Go.Operand.tmp 3), type := 31, pos := "law.go:83", after := #[], guard := none }) (v := .agg #[.int .i64 (k3 : Int), .int .i64 lc, .string sc, .int .i64 tc.kind, .int .u64 (ow tc.set 0), .int .u64 (ow tc.set 1), .int .u64 (ow tc.set 2), .int .u64 (ow tc.set 3), .slice ac tc.parts.length cc, .int .i64 tc.mn, .int .i64 tc.mx, .int .i64 tc.num, .int .i64 (k4 : Int), .int .i64 ld, .string sd, .int .i64 td.kind, .int .u64 (ow td.set 0), .int .u64 (ow td.set 1), .int .u64 (ow td.set 2), .int .u64 (ow td.set 3), .slice ad td.parts.length cd, .int .i64 td.mn, .int .i64 td.mx, .int .i64 td.num, .bool n2]) rfl (by kernel_rfl) (by kernel_rfl) (by kernel_rfl) (fun _ _ _ h => h) (Or.inl ⟨by rfl, ?_⟩) hHeld ?_
   ·intro W' hSw; exact run_load_blk 31 _ rfl _ rfl (QH.out.step hSw).y Tryz.underlying31 (by kernel_rfl)
   try simp only [List.getElem_toArray, List.getElem_cons_succ, List.getElem_cons_zero, Act.put, List.setIfInBounds_toArray, List.set_cons_zero, List.set_cons_succ]
   refine wpAnyH_ready (rs := [2]) (by kernel_rfl) (by simp) ?_
   refine AllReadyH.cons (o := { dst := some 48, op := Go.Op.call { callee := Go.Callee.value (Go.Operand.func 13), args := #[Go.Operand.tmp 46, Go.Operand.tmp 47], argTypes := #[40, 40] }, type := 4, pos := "law.go:83", after := #[{ on := 0, ground := Go.Ground.data }, { on := 1, ground := Go.Ground.data }], guard := none }) rfl (fun K hK => ?_) AllReadyH.nil
   go_simp
   go_wp2_with (go_at_call 13; (with_reducible refine (hC1 _ hHeld).mono ?_); rintro e v1 ⟨rfl, b1⟩)
   have hHeld1 := hHeld.trans (b1.mono hHeld.size)
   refine hK.out _ _ hHeld1 (fun _ => ?_)
   clear hK K; replace hHeld := hHeld1; clear hHeld1 b1
   try simp only [List.getElem_toArray, List.getElem_cons_succ, List.getElem_cons_zero, Act.put, List.setIfInBounds_toArray, List.set_cons_zero, List.set_cons_succ]
   refine wpAnyH_ready (rs := [5]) (by kernel_rfl) (by simp) ?_
   refine AllReadyH.cons (o := { dst := some 51, op := Go.Op.call { callee := Go.Callee.value (Go.Operand.func 14), args := #[Go.Operand.tmp 49, Go.Operand.tmp 50], argTypes := #[31, 31] }, type := 4, pos := "law.go:83", after := #[{ on := 3, ground := Go.Ground.data }, { on := 4, ground := Go.Ground.data }, { on := 2, ground := Go.Ground.chain }], guard := none }) rfl (fun K hK => ?_) AllReadyH.nil
   go_simp
   go_wp2_with (go_at_call 14; (with_reducible refine (hC2 _ hHeld).mono ?_); rintro e v2 ⟨rfl, b2⟩)
   have hHeld2 := hHeld.trans (b2.mono hHeld.size)
   refine hK.out _ _ hHeld2 (fun _ => ?_)
   clear hK K; replace hHeld := hHeld2; clear hHeld2 b2
   try simp only [List.getElem_toArray, List.getElem_cons_succ, List.getElem_cons_zero, Act.put, List.setIfInBounds_toArray, List.set_cons_zero, List.set_cons_succ]
   refine wpAnyH_take (i := 6) (oi := { dst := some 52, op := Go.Op.binOp Go.BinOp.eql 4 (Go.Operand.tmp 48) (Go.Operand.tmp 51) 4, type := 4, pos := "law.go:83", after := #[{ on := 2, ground := Go.Ground.data }, { on := 5, ground := Go.Ground.data }], guard := none }) (v := .bool true) rfl (by kernel_rfl) (by kernel_rfl) (by kernel_rfl) (fun _ _ _ h => h) (Or.inl ⟨by rfl, ?_⟩) hHeld ?_
   ·intro W' hSw; clear hSw; cases B1 <;> go_simp
   try simp only [List.getElem_toArray, List.getElem_cons_succ, List.getElem_cons_zero, Act.put, List.setIfInBounds_toArray, List.set_cons_zero, List.set_cons_succ]
   refine wpAnyH_take (i := 7) (oi := { dst := some 53, op := Go.Op.move (Go.Operand.tmp 52), type := 4, pos := "law.go:83", after := #[{ on := 6, ground := Go.Ground.data }, { on := 5, ground := Go.Ground.chain }], guard := none }) (v := .bool true) rfl (by kernel_rfl) (by kernel_rfl) (by kernel_rfl) (fun _ _ _ h => h) (Or.inl ⟨by rfl, ?_⟩) hHeld ?_
   ·intro W' hSw; go_simp
   try simp only [List.getElem_toArray, List.getElem_cons_succ, List.getElem_cons_zero, Act.put, List.setIfInBounds_toArray, List.set_cons_zero, List.set_cons_succ]
   refine wpAnyH_take (i := 8) (oi := { dst := some 54, op := Go.Op.fieldAddr 40 (Go.Operand.tmp 5) 0, type := 0, pos := "law.go:83", after := #[{ on := 7, ground := Go.Ground.guard }], guard := some (7, true) }) (v := .pointer (some ⟨x, 0, none⟩)) rfl (by kernel_rfl) (by kernel_rfl) (by kernel_rfl) (fun _ _ _ h => h) (Or.inl ⟨by rfl, ?_⟩) hHeld ?_
   ·intro W' hSw; go_simp
   try simp only [List.getElem_toArray, List.getElem_cons_succ, List.getElem_cons_zero, Act.put, List.setIfInBounds_toArray, List.set_cons_zero, List.set_cons_succ]
   refine wpAnyH_take (i := 9) (oi := { dst := some 55, op := Go.Op.load 38 (Go.Operand.tmp 54), type := 38, pos := "law.go:83", after := #[{ on := 8, ground := Go.Ground.data }, { on := 7, ground := Go.Ground.guard }], guard := some (7, true) }) (v := .agg #[.int .i64 (k1 : Int), .int .i64 la, .string sa, va]) rfl (by kernel_rfl) (by kernel_rfl) (by kernel_rfl) (fun _ _ _ h => h) (Or.inl ⟨by rfl, ?_⟩) hHeld ?_
   ·intro W' hSw; exact run_load_sub 38 _ rfl _ 0 4 rfl (QX.out.below hSw QX.out.lt) Tryz.underlying38 (by kernel_rfl)
   try simp only [List.getElem_toArray, List.getElem_cons_succ, List.getElem_cons_zero, Act.put, List.setIfInBounds_toArray, List.set_cons_zero, List.set_cons_succ]
   refine wpAnyH_take (i := 10) (oi := { dst := some 56, op := Go.Op.fieldAddr 40 (Go.Operand.tmp 6) 1, type := 0, pos := "law.go:83", after := #[{ on := 7, ground := Go.Ground.guard }], guard := some (7, true) }) (v := .pointer (some ⟨y, 4, none⟩)) rfl (by kernel_rfl) (by kernel_rfl) (by kernel_rfl) (fun _ _ _ h => h) (Or.inl ⟨by rfl, ?_⟩) hHeld ?_
   ·intro W' hSw; go_simp
   try simp only [List.getElem_toArray, List.getElem_cons_succ, List.getElem_cons_zero, Act.put, List.setIfInBounds_toArray, List.set_cons_zero, List.set_cons_succ]
   refine wpAnyH_take (i := 11) (oi := { dst := some 57, op := Go.Op.load 38 (Go.Operand.tmp 56), type := 38, pos := "law.go:83", after := #[{ on := 10, ground := Go.Ground.data }, { on := 7, ground := Go.Ground.guard }], guard := some (7, true) }) (v := .agg #[.int .i64 (k4 : Int), .int .i64 ld, .string sd, vd]) rfl (by kernel_rfl) (by kernel_rfl) (by kernel_rfl) (fun _ _ _ h => h) (Or.inl ⟨by rfl, ?_⟩) hHeld ?_
   ·intro W' hSw; exact run_load_sub 38 _ rfl _ 4 4 rfl (QY.out.below hSw QY.out.lt) Tryz.underlying38 (by kernel_rfl)
   try simp only [List.getElem_toArray, List.getElem_cons_succ, List.getElem_cons_zero, Act.put, List.setIfInBounds_toArray, List.set_cons_zero, List.set_cons_succ]
   refine wpAnyH_take (i := 13) (oi := { dst := some 59, op := Go.Op.fieldAddr 31 (Go.Operand.tmp 2) 0, type := 0, pos := "law.go:83", after := #[{ on := 7, ground := Go.Ground.guard }], guard := some (7, true) }) (v := .pointer (some ⟨w.heap.size, 0, none⟩)) rfl (by kernel_rfl) (by kernel_rfl) (by kernel_rfl) (fun _ _ _ h => h) (Or.inl ⟨by rfl, ?_⟩) hHeld ?_
   ·intro W' hSw; go_simp
   try simp only [List.getElem_toArray, List.getElem_cons_succ, List.getElem_cons_zero, Act.put, List.setIfInBounds_toArray, List.set_cons_zero, List.set_cons_succ]
   refine wpAnyH_take (i := 14) (oi := { dst := some 60, op := Go.Op.load 29 (Go.Operand.tmp 59), type := 29, pos := "law.go:83", after := #[{ on := 13, ground := Go.Ground.data }, { on := 7, ground := Go.Ground.guard }], guard := some (7, true) }) (v := .agg #[.int .i64 (k1 : Int), .int .i64 la, .string sa, .int .i64 ta.kind, .int .u64 (ow ta.set 0), .int .u64 (ow ta.set 1), .int .u64 (ow ta.set 2), .int .u64 (ow ta.set 3), .slice aa ta.parts.length ca, .int .i64 ta.mn, .int .i64 ta.mx, .int .i64 ta.num]) rfl (by kernel_rfl) (by kernel_rfl) (by kernel_rfl) (fun _ _ _ h => h) (Or.inl ⟨by rfl, ?_⟩) hHeld ?_
   ·intro W' hSw; exact run_load_sub 29 _ rfl _ 0 12 rfl (QH.out.step hSw).x Tryz.underlying29 (by kernel_rfl)
   try simp only [List.getElem_toArray, List.getElem_cons_succ, List.getElem_cons_zero, Act.put, List.setIfInBounds_toArray, List.set_cons_zero, List.set_cons_succ]
   refine wpAnyH_take (i := 15) (oi := { dst := some 61, op := Go.Op.fieldAddr 31 (Go.Operand.tmp 3) 1, type := 0, pos := "law.go:83", after := #[{ on := 7, ground := Go.Ground.guard }], guard := some (7, true) }) (v := .pointer (some ⟨p, 12, none⟩)) rfl (by kernel_rfl) (by kernel_rfl) (by kernel_rfl) (fun _ _ _ h => h) (Or.inl ⟨by rfl, ?_⟩) hHeld ?_
   ·intro W' hSw; go_simp
   try simp only [List.getElem_toArray, List.getElem_cons_succ, List.getElem_cons_zero, Act.put, List.setIfInBounds_toArray, List.set_cons_zero, List.set_cons_succ]
   refine wpAnyH_take (i := 16) (oi := { dst := some 62, op := Go.Op.load 29 (Go.Operand.tmp 61), type := 29, pos := "law.go:83", after := #[{ on := 15, ground := Go.Ground.data }, { on := 7, ground := Go.Ground.guard }], guard := some (7, true) }) (v := .agg #[.int .i64 (k4 : Int), .int .i64 ld, .string sd, .int .i64 td.kind, .int .u64 (ow td.set 0), .int .u64 (ow td.set 1), .int .u64 (ow td.set 2), .int .u64 (ow td.set 3), .slice ad td.parts.length cd, .int .i64 td.mn, .int .i64 td.mx, .int .i64 td.num]) rfl (by kernel_rfl) (by kernel_rfl) (by kernel_rfl) (fun _ _ _ h => h) (Or.inl ⟨by rfl, ?_⟩) hHeld ?_
   ·intro W' hSw; exact run_load_sub 29 _ rfl _ 12 12 rfl (QH.out.step hSw).y Tryz.underlying29 (by kernel_rfl)
   try simp only [List.getElem_toArray, List.getElem_cons_succ, List.getElem_cons_zero, Act.put, List.setIfInBounds_toArray, List.set_cons_zero, List.set_cons_succ]
   refine wpAnyH_ready (rs := [12]) (by kernel_rfl) (by simp) ?_
   refine AllReadyH.cons (o := { dst := some 58, op := Go.Op.call { callee := Go.Callee.value (Go.Operand.func 15), args := #[Go.Operand.tmp 55, Go.Operand.tmp 57], argTypes := #[38, 38] }, type := 4, pos := "law.go:83", after := #[{ on := 9, ground := Go.Ground.data }, { on := 11, ground := Go.Ground.data }, { on := 7, ground := Go.Ground.chain }, { on := 7, ground := Go.Ground.guard }], guard := some (7, true) }) rfl (fun K hK => ?_) AllReadyH.nil
   go_simp
   go_wp2_with (go_at_call 15; (with_reducible refine (hC3 _ hHeld).mono ?_); rintro e v3 ⟨rfl, b3⟩)
   have hHeld3 := hHeld.trans (b3.mono hHeld.size)
   refine hK.out _ _ hHeld3 (fun _ => ?_)
   clear hK K; replace hHeld := hHeld3; clear hHeld3 b3
   try simp only [List.getElem_toArray, List.getElem_cons_succ, List.getElem_cons_zero, Act.put, List.setIfInBounds_toArray, List.set_cons_zero, List.set_cons_succ]
   refine wpAnyH_ready (rs := [17]) (by kernel_rfl) (by simp) ?_
   refine AllReadyH.cons (o := { dst := some 63, op := Go.Op.call { callee := Go.Callee.value (Go.Operand.func 16), args := #[Go.Operand.tmp 60, Go.Operand.tmp 62], argTypes := #[29, 29] }, type := 4, pos := "law.go:83", after := #[{ on := 14, ground := Go.Ground.data }, { on := 16, ground := Go.Ground.data }, { on := 12, ground := Go.Ground.chain }, { on := 7, ground := Go.Ground.guard }], guard := some (7, true) }) rfl (fun K hK => ?_) AllReadyH.nil
   go_simp
   go_wp2_with (go_at_call 16; (with_reducible refine (hC4 _ hHeld).mono ?_); rintro e v4 ⟨rfl, b4⟩)
   have hHeld4 := hHeld.trans (b4.mono hHeld.size)
   refine hK.out _ _ hHeld4 (fun _ => ?_)
   clear hK K; replace hHeld := hHeld4; clear hHeld4 b4
   try simp only [List.getElem_toArray, List.getElem_cons_succ, List.getElem_cons_zero, Act.put, List.setIfInBounds_toArray, List.set_cons_zero, List.set_cons_succ]
   refine wpAnyH_take (i := 18) (oi := { dst := some 64, op := Go.Op.binOp Go.BinOp.eql 4 (Go.Operand.tmp 58) (Go.Operand.tmp 63) 4, type := 4, pos := "law.go:83", after := #[{ on := 12, ground := Go.Ground.data }, { on := 17, ground := Go.Ground.data }, { on := 7, ground := Go.Ground.guard }], guard := some (7, true) }) (v := .bool true) rfl (by kernel_rfl) (by kernel_rfl) (by kernel_rfl) (fun _ _ _ h => h) (Or.inl ⟨by rfl, ?_⟩) hHeld ?_
   ·intro W' hSw; clear hSw; cases B2 <;> go_simp
   try simp only [List.getElem_toArray, List.getElem_cons_succ, List.getElem_cons_zero, Act.put, List.setIfInBounds_toArray, List.set_cons_zero, List.set_cons_succ]
   refine wpAnyH_take (i := 19) (oi := { dst := some 65, op := Go.Op.pick (Go.Operand.tmp 53) (Go.Operand.tmp 64) (Go.Operand.const (Go.Value.bool false)), type := 4, pos := "law.go:83", after := #[{ on := 7, ground := Go.Ground.data }, { on := 18, ground := Go.Ground.data }], guard := none }) (v := .bool true) rfl (by kernel_rfl) (by kernel_rfl) (by kernel_rfl) (fun _ _ _ h => h) (Or.inl ⟨by rfl, ?_⟩) hHeld ?_
   ·intro W' hSw; go_simp
   try simp only [List.getElem_toArray, List.getElem_cons_succ, List.getElem_cons_zero, Act.put, List.setIfInBounds_toArray, List.set_cons_zero, List.set_cons_succ]
   refine wpAnyH_take (i := 20) (oi := { dst := some 66, op := Go.Op.move (Go.Operand.tmp 65), type := 4, pos := "law.go:83", after := #[{ on := 19, ground := Go.Ground.data }, { on := 17, ground := Go.Ground.chain }], guard := none }) (v := .bool true) rfl (by kernel_rfl) (by kernel_rfl) (by kernel_rfl) (fun _ _ _ h => h) (Or.inl ⟨by rfl, ?_⟩) hHeld ?_
   ·intro W' hSw; go_simp
   try simp only [List.getElem_toArray, List.getElem_cons_succ, List.getElem_cons_zero, Act.put, List.setIfInBounds_toArray, List.set_cons_zero, List.set_cons_succ]
   refine wpAnyH_take (i := 21) (oi := { dst := some 67, op := Go.Op.load 40 (Go.Operand.tmp 5), type := 40, pos := "law.go:83", after := #[{ on := 20, ground := Go.Ground.guard }], guard := some (20, true) }) (v := .agg #[.int .i64 (k1 : Int), .int .i64 la, .string sa, va, .int .i64 (k2 : Int), .int .i64 lb, .string sb, vb, .bool n1]) rfl (by kernel_rfl) (by kernel_rfl) (by kernel_rfl) (fun _ _ _ h => h) (Or.inl ⟨by rfl, ?_⟩) hHeld ?_
   ·intro W' hSw; exact run_load_blk 40 _ rfl _ rfl (QX.out.below hSw QX.out.lt) Tryz.underlying40 (by kernel_rfl)
   try simp only [List.getElem_toArray, List.getElem_cons_succ, List.getElem_cons_zero, Act.put, List.setIfInBounds_toArray, List.set_cons_zero, List.set_cons_succ]
   refine wpAnyH_take (i := 22) (oi := { dst := some 68, op := Go.Op.load 40 (Go.Operand.tmp 7), type := 40, pos := "law.go:83", after := #[{ on := 20, ground := Go.Ground.guard }], guard := some (20, true) }) (v := .agg #[.int .i64 (k1 : Int), .int .i64 la, .string (sa ++ ⟨#[63]⟩), va, .int .i64 (k2 : Int), .int .i64 lb, .string sb, vb, .bool n1]) rfl (by kernel_rfl) (by kernel_rfl) (by kernel_rfl) (fun _ _ _ h => h) (Or.inl ⟨by rfl, ?_⟩) hHeld ?_
   ·intro W' hSw; exact run_load_blk 40 _ rfl _ rfl (QZ.out.below hSw QZ.out.lt) Tryz.underlying40 (by kernel_rfl)
   try simp only [List.getElem_toArray, List.getElem_cons_succ, List.getElem_cons_zero, Act.put, List.setIfInBounds_toArray, List.set_cons_zero, List.set_cons_succ]
   refine wpAnyH_ready (rs := [23]) (by kernel_rfl) (by simp) ?_
   refine AllReadyH.cons (o := { dst := some 69, op := Go.Op.call { callee := Go.Callee.value (Go.Operand.func 13), args := #[Go.Operand.tmp 67, Go.Operand.tmp 68], argTypes := #[40, 40] }, type := 4, pos := "law.go:83", after := #[{ on := 21, ground := Go.Ground.data }, { on := 22, ground := Go.Ground.data }, { on := 20, ground := Go.Ground.chain }, { on := 20, ground := Go.Ground.guard }], guard := some (20, true) }) rfl (fun K hK => ?_) AllReadyH.nil
   go_simp
   go_wp2_with (go_at_call 13; (with_reducible refine (hC5 _ hHeld).mono ?_); rintro e v5 ⟨rfl, b5⟩)
   have hHeld5 := hHeld.trans (b5.mono hHeld.size)
   refine hK.out _ _ hHeld5 (fun _ => ?_)
   clear hK K; replace hHeld := hHeld5; clear hHeld5 b5
   try simp only [List.getElem_toArray, List.getElem_cons_succ, List.getElem_cons_zero, Act.put, List.setIfInBounds_toArray, List.set_cons_zero, List.set_cons_succ]
   refine wpAnyH_take (i := 24) (oi := { dst := some 70, op := Go.Op.pick (Go.Operand.tmp 66) (Go.Operand.tmp 69) (Go.Operand.const (Go.Value.bool false)), type := 4, pos := "law.go:83", after := #[{ on := 20, ground := Go.Ground.data }, { on := 23, ground := Go.Ground.data }], guard := none }) (v := .bool true) rfl (by kernel_rfl) (by kernel_rfl) (by kernel_rfl) (fun _ _ _ h => h) (Or.inl ⟨by rfl, ?_⟩) hHeld ?_
   ·intro W' hSw; go_simp
   try simp only [List.getElem_toArray, List.getElem_cons_succ, List.getElem_cons_zero, Act.put, List.setIfInBounds_toArray, List.set_cons_zero, List.set_cons_succ]
   refine wpAnyH_take (i := 25) (oi := { dst := some 71, op := Go.Op.move (Go.Operand.tmp 70), type := 4, pos := "law.go:83", after := #[{ on := 24, ground := Go.Ground.data }, { on := 23, ground := Go.Ground.chain }], guard := none }) (v := .bool true) rfl (by kernel_rfl) (by kernel_rfl) (by kernel_rfl) (fun _ _ _ h => h) (Or.inl ⟨by rfl, ?_⟩) hHeld ?_
   ·intro W' hSw; go_simp
   try simp only [List.getElem_toArray, List.getElem_cons_succ, List.getElem_cons_zero, Act.put, List.setIfInBounds_toArray, List.set_cons_zero, List.set_cons_succ]
   refine wpAnyH_take (i := 26) (oi := { dst := some 72, op := Go.Op.load 40 (Go.Operand.tmp 6), type := 40, pos := "law.go:83", after := #[{ on := 25, ground := Go.Ground.guard }], guard := some (25, true) }) (v := .agg #[.int .i64 (k3 : Int), .int .i64 lc, .string sc, vc, .int .i64 (k4 : Int), .int .i64 ld, .string sd, vd, .bool n2]) rfl (by kernel_rfl) (by kernel_rfl) (by kernel_rfl) (fun _ _ _ h => h) (Or.inl ⟨by rfl, ?_⟩) hHeld ?_
   ·intro W' hSw; exact run_load_blk 40 _ rfl _ rfl (QY.out.below hSw QY.out.lt) Tryz.underlying40 (by kernel_rfl)
   try simp only [List.getElem_toArray, List.getElem_cons_succ, List.getElem_cons_zero, Act.put, List.setIfInBounds_toArray, List.set_cons_zero, List.set_cons_succ]
   refine wpAnyH_take (i := 27) (oi := { dst := some 73, op := Go.Op.load 40 (Go.Operand.tmp 6), type := 40, pos := "law.go:83", after := #[{ on := 25, ground := Go.Ground.guard }], guard := some (25, true) }) (v := .agg #[.int .i64 (k3 : Int), .int .i64 lc, .string sc, vc, .int .i64 (k4 : Int), .int .i64 ld, .string sd, vd, .bool n2]) rfl (by kernel_rfl) (by kernel_rfl) (by kernel_rfl) (fun _ _ _ h => h) (Or.inl ⟨by rfl, ?_⟩) hHeld ?_
   ·intro W' hSw; exact run_load_blk 40 _ rfl _ rfl (QY.out.below hSw QY.out.lt) Tryz.underlying40 (by kernel_rfl)
   try simp only [List.getElem_toArray, List.getElem_cons_succ, List.getElem_cons_zero, Act.put, List.setIfInBounds_toArray, List.set_cons_zero, List.set_cons_succ]
   refine wpAnyH_ready (rs := [28]) (by kernel_rfl) (by simp) ?_
   refine AllReadyH.cons (o := { dst := some 74, op := Go.Op.call { callee := Go.Callee.value (Go.Operand.func 13), args := #[Go.Operand.tmp 72, Go.Operand.tmp 73], argTypes := #[40, 40] }, type := 4, pos := "law.go:83", after := #[{ on := 26, ground := Go.Ground.data }, { on := 27, ground := Go.Ground.data }, { on := 25, ground := Go.Ground.chain }, { on := 25, ground := Go.Ground.guard }], guard := some (25, true) }) rfl (fun K hK => ?_) AllReadyH.nil
   go_simp
   go_wp2_with (go_at_call 13; (with_reducible refine (hC6 _ hHeld).mono ?_); rintro e v6 ⟨rfl, b6⟩)
   have hHeld6 := hHeld.trans (b6.mono hHeld.size)
   refine hK.out _ _ hHeld6 (fun _ => ?_)
   clear hK K; replace hHeld := hHeld6; clear hHeld6 b6
   try simp only [List.getElem_toArray, List.getElem_cons_succ, List.getElem_cons_zero, Act.put, List.setIfInBounds_toArray, List.set_cons_zero, List.set_cons_succ]
   refine wpAnyH_take (i := 29) (oi := { dst := some 75, op := Go.Op.pick (Go.Operand.tmp 71) (Go.Operand.tmp 74) (Go.Operand.const (Go.Value.bool false)), type := 4, pos := "law.go:83", after := #[{ on := 25, ground := Go.Ground.data }, { on := 28, ground := Go.Ground.data }], guard := none }) (v := .bool true) rfl (by kernel_rfl) (by kernel_rfl) (by kernel_rfl) (fun _ _ _ h => h) (Or.inl ⟨by rfl, ?_⟩) hHeld ?_
   ·intro W' hSw; go_simp
   try simp only [List.getElem_toArray, List.getElem_cons_succ, List.getElem_cons_zero, Act.put, List.setIfInBounds_toArray, List.set_cons_zero, List.set_cons_succ]
   refine wpAnyH_take (i := 30) (oi := { dst := some 4, op := Go.Op.assign (Go.Operand.tmp 75), type := 4, pos := "law.go:83", after := #[{ on := 29, ground := Go.Ground.data }, { on := 28, ground := Go.Ground.chain }, { on := 0, ground := Go.Ground.phase }, { on := 1, ground := Go.Ground.phase }, { on := 2, ground := Go.Ground.phase }, { on := 3, ground := Go.Ground.phase }, { on := 4, ground := Go.Ground.phase }, { on := 5, ground := Go.Ground.phase }, { on := 6, ground := Go.Ground.phase }, { on := 7, ground := Go.Ground.phase }, { on := 8, ground := Go.Ground.phase }, { on := 9, ground := Go.Ground.phase }, { on := 10, ground := Go.Ground.phase }, { on := 11, ground := Go.Ground.phase }, { on := 12, ground := Go.Ground.phase }, { on := 13, ground := Go.Ground.phase }, { on := 14, ground := Go.Ground.phase }, { on := 15, ground := Go.Ground.phase }, { on := 16, ground := Go.Ground.phase }, { on := 17, ground := Go.Ground.phase }, { on := 18, ground := Go.Ground.phase }, { on := 19, ground := Go.Ground.phase }, { on := 20, ground := Go.Ground.phase }, { on := 21, ground := Go.Ground.phase }, { on := 22, ground := Go.Ground.phase }, { on := 23, ground := Go.Ground.phase }, { on := 24, ground := Go.Ground.phase }, { on := 25, ground := Go.Ground.phase }, { on := 26, ground := Go.Ground.phase }, { on := 27, ground := Go.Ground.phase }, { on := 28, ground := Go.Ground.phase }, { on := 29, ground := Go.Ground.phase }], guard := none }) (v := .bool true) rfl (by kernel_rfl) (by kernel_rfl) (by kernel_rfl) (fun _ _ _ h => h) (Or.inl ⟨by rfl, ?_⟩) hHeld ?_
   ·intro W' hSw; go_simp
   try simp only [List.getElem_toArray, List.getElem_cons_succ, List.getElem_cons_zero, Act.put, List.setIfInBounds_toArray, List.set_cons_zero, List.set_cons_succ]
   refine wpAnyH_done (by kernel_rfl) ?_ _
   (try go_wp2_with fail)
   go_ret
   exact ⟨rfl, (QH.out.step hHeld).b⟩
end Go.Proofs.YtjbnogjkgmkagaaGreatDoor
