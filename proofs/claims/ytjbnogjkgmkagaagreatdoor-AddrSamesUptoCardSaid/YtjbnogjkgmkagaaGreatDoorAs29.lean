/- The proof's texts AdWi, TrCaught, NdAb, NdAlike: what the claim reaches of them. -/
import Derived.Test.YtjbnogjkgmkagaaGreatDoorAs28
import Derived.Test.YtjbnogjkgmkagaaGreatDoorAs13
import Derived.Test.YtjbnogjkgmkagaaGreatDoorAs02
import Derived.Defers
import Derived.Recover
import Derived.Tactics2
import Derived.Test.YtjbnogjkgmkagaaGreatDoorAs07
import Derived.RangeFuncBound
import Derived.RangeFuncCalls
import Derived.Shelf.Abstract
import Derived.Shelf.RegionOpen
import Derived.WalkKit
import Derived.OwnWalkIn
import Derived.TacticsInMore
import Derived.LoopNIn
import Derived.LoopIn
import Derived.Sort.LoopGhostIn
import Derived.Sort.CutIn
import Derived.Maps.OwnIn
namespace Go.Proofs.YtjbnogjkgmkagaaGreatDoor
open Go Go.RowKit
set_option linter.unusedVariables false in
set_option linter.unusedSimpArgs false in
set_option maxRecDepth 100000 in
set_option maxHeartbeats 8000000 in
theorem pguard_at (ext : Bool) (s : ByteArray) (k : Nat) (w : World) (hs : s.size ≤ 4000000) (hk : k ≤ s.size) (hG : Gl w) (hP : GP w) :
  Calls Tryz.prog 25 #[.string s, .int .i64 (k : Int), .bool ext] w (GdA w (gdM ext s.data.toList k)) := by
 have hA := (Below.refl w.heap.size w).alloc (Nat.le_refl _) (.cells gdZ 40)
 have hR0 := Blk.new w gdZ 40 w.heap.size rfl
 obtain ⟨W, hW⟩ : ∃ W, w.alloc (.cells gdZ 40) = W := ⟨_, rfl⟩
 rw [hW] at hA hR0
 have hGW := hG.up hA
 have hPW := hP.up hA
 have hAd := padr_at ext false s k W hs hk hGW hPW
 unfold gdM
 have hwe : ∀ q, adM ext false s.data.toList k = .error q → q.1 ≠ 0 := fun q h => adM_err h
 have hle : ∀ q, adM ext false s.data.toList k = .ok q → q.2.2 ≤ s.size ∧ q.2.1.length ≤ 251 := fun q h => adM_le s (by omega) h
 generalize adM ext false s.data.toList k = R at hAd hwe hle ⊢
 obtain ⟨A, hans⟩ : ∃ A, gdOf s.data.toList (adTwo ext s.data.toList R) = A := ⟨_, rfl⟩
 rw [hans]
 have HAN := Lib.hid hans
 have HA := Lib.hid hA
 have HR0 := Lib.hid hR0
 have HG := Lib.hid hGW
 have HP := Lib.hid hPW
 clear hans hA hR0 hG hP hGW hPW
 cases R with
 | error q =>
  obtain ⟨n, p⟩ := q
  have hn : n ≠ 0 := hwe _ rfl
  have hnn : ((n : Int) != 0) = true := by simp; omega
  have HAE := Lib.hid (show (.error (n, p) : AdRd Grd) = A from HAN.out)
  clear hwe hn hle
  go_enter Tryz.func25, Tryz.ntmps25
  go_upto_region 2 with (go_at_call 36; refine hAd.mono ?_; clear hAd; rintro e w1 ⟨b1, rfl⟩; have B1 := Lib.hid (HA.out.trans (b1.mono HA.out.size)); have K1 := Lib.hid (HR0.out.below b1 HR0.out.lt); clear b1)
  have hlt1 := K1.out.lt
  generalize hW2 : w1.alloc _ = w2
  have hb2 := belowOfAlloc hW2
  have B2 := Lib.hid (B1.out.trans (hb2.mono B1.out.size))
  have K2 := Lib.hid (K1.out.below hb2 hlt1)
  clear hb2 hW2
  obtain ⟨⟨z0, z1, z2, z3, z4, z5, z6, z7, z8⟩, v0, v1, v2, v3, v4, v5, v6, v7, v8, hz⟩ := blk9v K2.out
  go_wp2_with fail
  first
   | (with_reducible refine post9v B2.out K2.out (Nat.le_refl _) ?_; intro w9 hB9 hk9 hs9 hz9)
   | (have hB9 := B2.out; have hk9 := K2.out; generalize w2 = w9 at *)
  clear z0 z1 z2 z3 z4 z5 z6 z7 z8 v0 v1 v2 v3 v4 v5 v6 v7 v8 hz
  obtain ⟨⟨z0, z1, z2, z3, z4, z5, z6, z7, z8⟩, _⟩ := blk9v hk9
  refine bodyPost_ret (v := .tuple #[.agg gdZ, .slice none 0 0, .int .i64 (p : Int), .int .i64 (n : Int)]) (by simp [results, Tryz.results25, go_sem, z0, z1, z2, z3, z4, z5, z6, z7, z8]) rfl ?_
  rw [← HAE.out]
  exact ⟨hB9, rfl⟩
 | ok q =>
  obtain ⟨a, ms, p⟩ := q
  clear hwe
  obtain ⟨hpl, hml⟩ := hle _ rfl
  simp only at hpl hml
  clear hle
  have hAd : Calls Tryz.prog 36 #[.string s, .int .i64 (k : Int), .bool ext, .bool false] W fun e w' => AdA W (.ok (a, ms, p)) e w' := hAd
  simp only [AdA] at hAd
  go_enter Tryz.func25, Tryz.ntmps25
  go_upto_region 2 with (go_at_call 36; refine hAd.mono ?_; clear hAd; rintro e w1 ⟨b1, ta, ma, mc, rfl, hta, hm⟩; have HT1 := Lib.hid hta; have HM1 := Lib.hid hm; have hsh := hta.shape; have B1 := Lib.hid (HA.out.trans (b1.mono HA.out.size)); have C1 := Lib.hid b1; have K1 := Lib.hid (HR0.out.below b1 HR0.out.lt); clear b1 hta hm; rcases hsh with ⟨T9, q9, rfl⟩ | rfl)
  all_goals
   have hlt1 := K1.out.lt
   generalize hW2 : w1.alloc _ = w2
   have hb2 := belowOfAlloc hW2
   have hX := blkOfAlloc hW2
   obtain ⟨x0, x1, x2, x3, _, _, _, _, hxl⟩ := blk4 hX
   have B2 := Lib.hid hb2
   clear hX
   go_upto_region 5 with fail
   generalize hW3 : w2.alloc _ = w3
   have hb3 := belowOfAlloc hW3
   have hY := blkOfAlloc hW3
   have hW0 := HR0.out.lt
   have hg : w.heap.size < w2.heap.size := by have := hb2.size; omega
   have hb13 := (B2.out.trans (hb3.mono B2.out.size))
   have S3 := Lib.hid (show GdSt w w2.heap.size a adNone _ .nilIface (.bool false) ms ma mc w3 from
    ⟨B1.out.trans (hb13.mono B1.out.size), K1.out.below hb13 hlt1, hY, hg,
     TrO.keep (F := fun b => W.heap.size ≤ b ∧ (Value.slice ma ms.length mc).ownBlock ≠ some b) hb13.size (fun b hb hl => ⟨⟨by have := hb.1; omega, by have := B2.out.size; omega, hb.2⟩, fun o => hb13.cell (p := ⟨b, o, none⟩) hl⟩) HT1.out, rfl,
     own_less (by omega) (nd_own_below HM1.out hb13), fun e => by have := co_own_lt9 HM1.out _ e; have := hb2.size; omega⟩)
   have D3 := Lib.hid (C1.out.trans (hb13.mono C1.out.size))
   obtain ⟨g, hgq⟩ : ∃ g, w2.heap.size = g := ⟨_, rfl⟩
   rw [hgq] at S3 ⊢
   have hxl3 : w1.heap.size < w3.heap.size := by have := hb13.size; have := hb3.size; omega
   replace x0 := (hb3.cell (p := ⟨w1.heap.size, 0, none⟩) hxl).trans x0
   replace x1 := (hb3.cell (p := ⟨w1.heap.size, 1, none⟩) hxl).trans x1
   replace x2 := (hb3.cell (p := ⟨w1.heap.size, 2, none⟩) hxl).trans x2
   replace x3 := (hb3.cell (p := ⟨w1.heap.size, 3, none⟩) hxl).trans x3
   clear hb2 hb3 hY hb13 hg hlt1 hW2 hW3 hW0 hgq
   obtain ⟨kd, hkd⟩ : ∃ kd, a.kind = kd := ⟨_, rfl⟩
   rw [hkd] at x0
   have Hkd := Lib.hid hkd
   by_cases hk0 : kd = 0
   ·subst hk0
    have HAE := Lib.hid (show gdEnd a adNone ms (adNot s.data.toList p) = A from by
     rw [← HAN.out]
     show _ = gdOf s.data.toList (if a.kind = 0 then _ else _)
     rw [if_pos Hkd.out]
     rfl)
    clear hkd
    go_upto_region 10 with fail
    (try clear x0); (try clear x1); (try clear x2); (try clear x3)
    have hnt := pnot_any s p w3 hs hpl
    have hne9 : ∀ q, adNot s.data.toList p = .error q → q.1 ≠ 0 := fun q h => adNot_err h
    generalize adNot s.data.toList p = N at hnt hne9 HAE
    obtain ⟨⟨y0, y1, y2, y3, y4, y5, y6, y7, y8⟩, f0, f1, f2, f3, f4, f5, f6, f7, f8, hyl⟩ := blk9v S3.out.q
    cases N with
    | error q =>
     obtain ⟨n2, p2⟩ := q
     have hn : n2 ≠ 0 := hne9 _ rfl
     have hnn : ((n2 : Int) != 0) = true := by simp; omega
     clear hne9 hn
     go_upto_region 11 with (go_at_call 38; refine hnt.mono ?_; clear hnt; rintro e w8 ⟨b8, rfl⟩; have S8 := Lib.hid (S3.out.step b8); clear b8 y0 y1 y2 y3 y4 y5 y6 y7 y8 f0 f1 f2 f3 f4 f5 f6 f7 f8 hyl; obtain ⟨⟨y0, y1, y2, y3, y4, y5, y6, y7, y8⟩, f0, f1, f2, f3, f4, f5, f6, f7, f8, hyl⟩ := blk9v S8.out.q)
     have S9 := Lib.hid (S8.out.not (.bool false))
     clear y0 y1 y2 y3 y4 y5 y6 y7 y8 f0 f1 f2 f3 f4 f5 f6 f7 f8 hyl
     first
      | generalize w8.setCell ⟨g, 8, none⟩ (.bool false) = w9 at *
      | (replace S9 := S8; generalize w8 = w9 at *)
     obtain ⟨⟨z0, z1, z2, z3, z4, z5, z6, z7, z8⟩, v0, v1, v2, v3, v4, v5, v6, v7, v8, hz⟩ := blk9v S9.out.p
     go_wp2_with fail
     first
      | (with_reducible refine post9v S9.out.b0 S9.out.p (Nat.le_refl _) ?_; intro w10 hB9 hk9 hs9 hz9)
      | (have hB9 := S9.out.b0; have hk9 := S9.out.p; generalize w9 = w10 at *)
     clear z0 z1 z2 z3 z4 z5 z6 z7 z8 v0 v1 v2 v3 v4 v5 v6 v7 v8 hz
     obtain ⟨⟨z0, z1, z2, z3, z4, z5, z6, z7, z8⟩, _⟩ := blk9v hk9
     refine bodyPost_ret (v := .tuple #[.agg gdZ, .slice none 0 0, .int .i64 (p2 : Int), .int .i64 (n2 : Int)]) (by simp [results, Tryz.results25, go_sem, z0, z1, z2, z3, z4, z5, z6, z7, z8]) rfl ?_
     rw [← HAE.out]
     exact ⟨hB9, rfl⟩
    | ok q =>
     obtain ⟨no, p2⟩ := q
     clear hne9
     go_upto_region 11 with (go_at_call 38; refine hnt.mono ?_; clear hnt; rintro e w8 ⟨b8, rfl⟩; have S8 := Lib.hid (S3.out.step b8); clear b8 y0 y1 y2 y3 y4 y5 y6 y7 y8 f0 f1 f2 f3 f4 f5 f6 f7 f8 hyl; obtain ⟨⟨y0, y1, y2, y3, y4, y5, y6, y7, y8⟩, f0, f1, f2, f3, f4, f5, f6, f7, f8, hyl⟩ := blk9v S8.out.q)
     have S9 := Lib.hid (S8.out.not (.bool no))
     clear y0 y1 y2 y3 y4 y5 y6 y7 y8 f0 f1 f2 f3 f4 f5 f6 f7 f8 hyl
     generalize w8.setCell ⟨g, 8, none⟩ (.bool no) = w9 at *
     obtain ⟨⟨y0, y1, y2, y3, y4, y5, y6, y7, y8⟩, f0, f1, f2, f3, f4, f5, f6, f7, f8, hyl⟩ := blk9v S9.out.q
     obtain ⟨⟨z0, z1, z2, z3, z4, z5, z6, z7, z8⟩, v0, v1, v2, v3, v4, v5, v6, v7, v8, hz⟩ := blk9v S9.out.p
     have hwg := S9.out.pg
     go_wp2_with fail
     with_reducible refine post9v S9.out.b0 S9.out.p (Nat.le_refl _) ?_
     intro w10 hB9 hk9 hs9 hz9
     clear z0 z1 z2 z3 z4 z5 z6 z7 z8 v0 v1 v2 v3 v4 v5 v6 v7 v8 hz y0 y1 y2 y3 y4 y5 y6 y7 y8 f0 f1 f2 f3 f4 f5 f6 f7 f8 hyl
     obtain ⟨⟨z0, z1, z2, z3, z4, z5, z6, z7, z8⟩, _⟩ := blk9v hk9
     have hfin := S9.out.end hB9 hs9 hz9 p2
     rw [show (.ok (⟨_, _, no⟩, _, p2) : AdRd Grd) = A from HAE.out] at hfin
     exact bodyPost_ret (by simp [results, Tryz.results25, go_sem, z0, z1, z2, z3, z4, z5, z6, z7, z8]) rfl hfin
   ·have hkk : ((kd : Int) != 0) = true := by simp; omega
    have HAE := Lib.hid (show gdOf s.data.toList (adJoin a ms (adSec ext s.data.toList p)) = A from by
     rw [← HAN.out]
     show _ = gdOf s.data.toList (if a.kind = 0 then _ else _)
     rw [if_neg (by rw [Hkd.out]; exact hk0)])
    have hsc := psec_any ext s p w3 hs hpl (HG.out.up D3.out) (HP.out.up D3.out)
    have hne : ∀ q, adSec ext s.data.toList p = .error q → q.1 ≠ 0 := fun q h => adSec_err h
    have hle2 : ∀ q, adSec ext s.data.toList p = .ok q → q.2.2 ≤ s.size ∧ q.2.1.length ≤ 251 := fun q h => adSec_le s hpl h
    generalize adSec ext s.data.toList p = R2 at hsc hne hle2 HAE
    clear hkd hk0
    go_upto_region 6 with fail
    clear x0 x1 x2 x3
    cases R2 with
    | error q =>
     obtain ⟨n2, p2⟩ := q
     have hn : n2 ≠ 0 := hne _ rfl
     have hnn : ((n2 : Int) != 0) = true := by simp; omega
     clear hne hle2 hn
     go_upto_region 7 with (go_at_call 37; refine hsc.mono ?_; clear hsc; rintro e w5 ⟨b5, rfl⟩; have S5 := Lib.hid (S3.out.step b5); clear b5)
     generalize hW6 : w5.alloc _ = w6
     have S6 := Lib.hid (S5.out.step (belowOfAlloc hW6))
     clear hW6
     obtain ⟨⟨z0, z1, z2, z3, z4, z5, z6, z7, z8⟩, v0, v1, v2, v3, v4, v5, v6, v7, v8, hz⟩ := blk9v S6.out.p
     go_wp2_with fail
     first
      | (with_reducible refine post9v S6.out.b0 S6.out.p (Nat.le_refl _) ?_; intro w10 hB9 hk9 hs9 hz9)
      | (have hB9 := S6.out.b0; have hk9 := S6.out.p; generalize w6 = w10 at *)
     clear z0 z1 z2 z3 z4 z5 z6 z7 z8 v0 v1 v2 v3 v4 v5 v6 v7 v8 hz
     obtain ⟨⟨z0, z1, z2, z3, z4, z5, z6, z7, z8⟩, _⟩ := blk9v hk9
     refine bodyPost_ret (v := .tuple #[.agg gdZ, .slice none 0 0, .int .i64 (p2 : Int), .int .i64 (n2 : Int)]) (by simp [results, Tryz.results25, go_sem, z0, z1, z2, z3, z4, z5, z6, z7, z8]) rfl ?_
     rw [← HAE.out]
     exact ⟨hB9, rfl⟩
    | ok q =>
     obtain ⟨b, ms2, p2⟩ := q
     clear hne
     obtain ⟨hpl2, hml2⟩ := hle2 _ rfl
     simp only at hpl2 hml2
     clear hle2
     replace HAE := Lib.hid (show gdEnd a b (ms ++ ms2) (adNot s.data.toList p2) = A from HAE.out)
     have hsc : Calls Tryz.prog 37 #[.string s, .int .i64 (p : Int), .bool ext] w3 fun e w' => AdA w3 (.ok (b, ms2, p2)) e w' := hsc
     simp only [AdA] at hsc
     go_upto_region 7 with (go_at_call 37; refine hsc.mono ?_; clear hsc; rintro e w5 ⟨b5, tb, mb, mcb, rfl, htb, hmb⟩; have S5 := Lib.hid (S3.out.step b5); have T5 := Lib.hid htb; have M5 := Lib.hid hmb; have Z5 := Lib.hid b5.size; have hsh2 := htb.shape; clear b5 htb hmb; rcases hsh2 with ⟨T8, q8, rfl⟩ | rfl)
     all_goals
      generalize hW6 : w5.alloc _ = w6
      have hb6 := belowOfAlloc hW6
      have hX := blkOfAlloc hW6
      have S6 := Lib.hid (S5.out.step hb6)
      have T6 := Lib.hid (TrO.below hb6 T5.out)
      have M6 := Lib.hid (nd_own_below M5.out hb6)
      have HX := Lib.hid hX
      have Hg3 := Lib.hid S3.out.q.lt
      have Hq3 := Lib.hid (fun q (e : (Value.slice ma ms.length mc).ownBlock = some q) => co_own_lt9 S3.out.r q e)
      have Hx5 := Lib.hid (show w3.heap.size ≤ w5.heap.size from Z5.out)
      obtain ⟨x, hx⟩ : ∃ x, w5.heap.size = x := ⟨_, rfl⟩
      have Hxl := Lib.hid (show x < w6.heap.size by rw [← hx]; exact hX.lt)
      rw [hx] at HX Hx5 ⊢
      clear hb6 hX hW6 hx
      obtain ⟨x0, x1, x2, x3, _, _, _, _, hxl⟩ := blk4 HX.out
      obtain ⟨⟨y0, y1, y2, y3, y4, y5, y6, y7, y8⟩, f0, f1, f2, f3, f4, f5, f6, f7, f8, hyl⟩ := blk9v S6.out.q
      obtain ⟨i0, hi, hz0, hz1, hz2⟩ := mark_info
      have hm1 : ms.length + ms2.length ≤ maxLen := by unfold maxLen; omega
      have hm2 : (ms.length + ms2.length) * 24 ≤ 140737488355328 := by omega
      have hbs : w.heap.size + 1 ≤ w6.heap.size := by have := S6.out.pg; omega
      have hxo : (Value.slice ma ms.length mc).ownBlock ≠ some x := fun e => by have := Hq3.out x e; have := Hx5.out; omega
      have HXO := Lib.hid hxo
      clear hxo
      go_upto_region 9 with fail
      go_region_law (first
       | (refine step_append_any rfl _ _ 52 rfl (w.heap.size + 1) 71 i0 (.agg #[.int .i64 0, .string ⟨#[]⟩]) 2 24 Tryz.underlying52 hi hz0 hz1 hz2 rfl (by decide) (.slice ma ms.length mc) ms.length (wmC ms) rfl S6.out.r mb ms2.length mcb (wmC ms2) rfl (wmC_len ms2) (newsOf M6.out) (wmC_one ms2) hm1 hm2 hbs ?_; intro v7 w7 hown7 hgr7 hat7; obtain ⟨m7, c7, rfl⟩ := own_form' hown7; have HO7 := Lib.hid hown7; have HG7 := Lib.hid hgr7; have HA7 := Lib.hid hat7; have HX7 := Lib.hid (blkGrownR HX.out.drew hgr7 HXO.out); have HY7 := Lib.hid (blkGrownR S6.out.q.drew hgr7 S6.out.rg); clear hown7 hgr7 hat7 x0 x1 x2 x3 hxl y0 y1 y2 y3 y4 y5 y6 y7 y8 f0 f1 f2 f3 f4 f5 f6 f7 f8 hyl; obtain ⟨x0, x1, x2, x3, _, _, _, _, hxl⟩ := blk4 HX7.out; obtain ⟨⟨y0, y1, y2, y3, y4, y5, y6, y7, y8⟩, f0, f1, f2, f3, f4, f5, f6, f7, f8, hyl⟩ := blk9v HY7.out))
      all_goals
       have hS7 := HG7.out.size
       generalize hW8 : ((((w7.setCell ⟨g, 4, none⟩ _).setCell ⟨g, 5, none⟩ _).setCell ⟨g, 6, none⟩ _).setCell ⟨g, 7, none⟩ _) = w8
       obtain ⟨k1, k2, k3, k4⟩ := put4at HY7.out _ _ _ _ w8 hW8
       have hgl := S6.out.q.lt
       have hpg := S6.out.pg
       have hng : ∀ q, (Value.slice m7 (ms.length + ms2.length) c7).ownBlock = some q → q ≠ g := fun q e e2 => by
        subst e2
        rcases HA7.out with h | h
        ·exact S6.out.rg (h.symm.trans e)
        ·rw [h] at e; injection e with e; have : w6.heap.size = q := e; omega
       have S9 := Lib.hid (GdSt.sec S6.out Hg3.out Hq3.out T6.out (((S6.out.b0.drew).grown HG7.out S6.out.b0.size (fun q e => Nat.le_of_succ_le (own_of S6.out.r q e))).trans (k4 _ (Nat.le_of_lt hpg))) (by have : w6.heap.size ≤ w7.heap.size := hS7; omega)
        (fun y hy h1 h2 => (k2 y h1).trans (HG7.out.block y hy fun e => h2 e.symm)) k1 (own_row_same HO7.out fun q e => k2 q (hng q e)) (HA7.out.imp id fun e => ⟨_, e, Nat.le_refl _⟩))
       have Hm7 := Lib.hid (show (ms ++ ms2).length = ms.length + ms2.length from List.length_append)
       clear k1 k2 k3 k4 hgl hpg hng hS7 hW8 x0 x1 x2 x3 hxl y0 y1 y2 y3 y4 y5 y6 y7 y8 f0 f1 f2 f3 f4 f5 f6 f7 f8 hyl
       go_upto_region 10 with fail
       have hnt := pnot_any s p2 w8 hs hpl2
       have hne9 : ∀ q, adNot s.data.toList p2 = .error q → q.1 ≠ 0 := fun q h => adNot_err h
       generalize adNot s.data.toList p2 = N at hnt hne9 HAE
       obtain ⟨⟨y0, y1, y2, y3, y4, y5, y6, y7, y8⟩, f0, f1, f2, f3, f4, f5, f6, f7, f8, hyl⟩ := blk9v S9.out.q
       cases N with
       | error q =>
        obtain ⟨n2, p2⟩ := q
        have hn : n2 ≠ 0 := hne9 _ rfl
        have hnn : ((n2 : Int) != 0) = true := by simp; omega
        clear hne9 hn
        go_upto_region 11 with (go_at_call 38; refine hnt.mono ?_; clear hnt; rintro e w8 ⟨b8, rfl⟩; have S8 := Lib.hid (S9.out.step b8); clear b8 y0 y1 y2 y3 y4 y5 y6 y7 y8 f0 f1 f2 f3 f4 f5 f6 f7 f8 hyl; obtain ⟨⟨y0, y1, y2, y3, y4, y5, y6, y7, y8⟩, f0, f1, f2, f3, f4, f5, f6, f7, f8, hyl⟩ := blk9v S8.out.q)
        have S9 := Lib.hid (S8.out.not (.bool false))
        clear y0 y1 y2 y3 y4 y5 y6 y7 y8 f0 f1 f2 f3 f4 f5 f6 f7 f8 hyl
        first
         | generalize w8.setCell ⟨g, 8, none⟩ (.bool false) = w9 at *
         | (replace S9 := S8; generalize w8 = w9 at *)
        obtain ⟨⟨z0, z1, z2, z3, z4, z5, z6, z7, z8⟩, v0, v1, v2, v3, v4, v5, v6, v7, v8, hz⟩ := blk9v S9.out.p
        go_wp2_with fail
        first
         | (with_reducible refine post9v S9.out.b0 S9.out.p (Nat.le_refl _) ?_; intro w10 hB9 hk9 hs9 hz9)
         | (have hB9 := S9.out.b0; have hk9 := S9.out.p; generalize w9 = w10 at *)
        clear z0 z1 z2 z3 z4 z5 z6 z7 z8 v0 v1 v2 v3 v4 v5 v6 v7 v8 hz
        obtain ⟨⟨z0, z1, z2, z3, z4, z5, z6, z7, z8⟩, _⟩ := blk9v hk9
        refine bodyPost_ret (v := .tuple #[.agg gdZ, .slice none 0 0, .int .i64 (p2 : Int), .int .i64 (n2 : Int)]) (by simp [results, Tryz.results25, go_sem, z0, z1, z2, z3, z4, z5, z6, z7, z8]) rfl ?_
        rw [← HAE.out]
        exact ⟨hB9, rfl⟩
       | ok q =>
        obtain ⟨no, p2⟩ := q
        clear hne9
        go_upto_region 11 with (go_at_call 38; refine hnt.mono ?_; clear hnt; rintro e w8 ⟨b8, rfl⟩; have S8 := Lib.hid (S9.out.step b8); clear b8 y0 y1 y2 y3 y4 y5 y6 y7 y8 f0 f1 f2 f3 f4 f5 f6 f7 f8 hyl; obtain ⟨⟨y0, y1, y2, y3, y4, y5, y6, y7, y8⟩, f0, f1, f2, f3, f4, f5, f6, f7, f8, hyl⟩ := blk9v S8.out.q)
        have S9 := Lib.hid (S8.out.not (.bool no))
        clear y0 y1 y2 y3 y4 y5 y6 y7 y8 f0 f1 f2 f3 f4 f5 f6 f7 f8 hyl
        generalize w8.setCell ⟨g, 8, none⟩ (.bool no) = w9 at *
        obtain ⟨⟨y0, y1, y2, y3, y4, y5, y6, y7, y8⟩, f0, f1, f2, f3, f4, f5, f6, f7, f8, hyl⟩ := blk9v S9.out.q
        obtain ⟨⟨z0, z1, z2, z3, z4, z5, z6, z7, z8⟩, v0, v1, v2, v3, v4, v5, v6, v7, v8, hz⟩ := blk9v S9.out.p
        have hwg := S9.out.pg
        go_wp2_with fail
        with_reducible refine post9v S9.out.b0 S9.out.p (Nat.le_refl _) ?_
        intro w10 hB9 hk9 hs9 hz9
        clear z0 z1 z2 z3 z4 z5 z6 z7 z8 v0 v1 v2 v3 v4 v5 v6 v7 v8 hz y0 y1 y2 y3 y4 y5 y6 y7 y8 f0 f1 f2 f3 f4 f5 f6 f7 f8 hyl
        obtain ⟨⟨z0, z1, z2, z3, z4, z5, z6, z7, z8⟩, _⟩ := blk9v hk9
        have hfin := S9.out.end hB9 hs9 hz9 p2
        rw [show (.ok (⟨_, _, no⟩, _, p2) : AdRd Grd) = A from HAE.out] at hfin
        exact bodyPost_ret (by simp [results, Tryz.results25, go_sem, z0, z1, z2, z3, z4, z5, z6, z7, z8]) rfl hfin
end Go.Proofs.YtjbnogjkgmkagaaGreatDoor
namespace Go.Proofs.YtjbnogjkgmkagaaGreatDoor
open Go Go.RowKit
def nholds (d : Nd) (s : OSet) : Bool := match d with
 | .one t => decide (t = s)
 | _ => false
theorem hset_eql (s t : OSet) (w : World) : (Op.equalIn 10000 118 (.agg #[.int .u64 (ow s 0), .int .u64 (ow s 1), .int .u64 (ow s 2), .int .u64 (ow s 3)]) (.agg #[.int .u64 (ow t 0), .int .u64 (ow t 1), .int .u64 (ow t 2), .int .u64 (ow t 3)])).run Tryz.prog w = .ok (decide (s = t)) w := by
 have hc : Tryz.prog.cellsOf 22 = 1 := by kernel_rfl
 have hi0 : (Tryz.prog.info? 22).isSome = true := by kernel_rfl
 obtain ⟨i, hi⟩ := Option.isSome_iff_exists.1 hi0
 rw [run_equalIn_array w 9999 (e := 22) (n := 4) _ _ Tryz.underlying118 hi]
 rw [hc, show List.range 4 = [0, 1, 2, 3] from rfl, req_items, rset_beq]
set_option linter.unusedSimpArgs false in
set_option maxRecDepth 100000 in
set_option maxHeartbeats 2000000 in
theorem holds_any {F : Nat → Prop} (d : Nd) (v : Value) (t : OSet) (w : World) (h : NdX F w d v) : Calls Tryz.prog 65 #[v, .agg #[.int .u64 (ow t 0), .int .u64 (ow t 1), .int .u64 (ow t 2), .int .u64 (ow t 3)]] w fun e w' => e = .returned (.bool (nholds d t)) ∧ Below w.heap.size w w' := by
 have hq := hset_eql
 rcases nd_kinds h with ⟨rfl, rfl | rfl⟩ | ⟨s, rfl, rfl⟩ | ⟨l, a, cap, rfl, rfl, hr⟩ | ⟨l, a, cap, rfl, rfl, hr⟩ | ⟨d', mn, mx, u, rfl, rfl, hu⟩ | ⟨num, d', u, rfl, rfl, hu⟩ | ⟨num, rfl, rfl⟩ | ⟨rfl, rfl⟩ | ⟨rfl, rfl⟩
 all_goals
  go_enter Tryz.func65, Tryz.ntmps65
  go_wp2_with fail
  go_ret
  refine ⟨rfl, ?_⟩
  repeat (first | (with_reducible exact Below.refl _ _) | refine Below.drew ?_ | refine Below.setCell ?_ (by first | omega | (simp; omega) | simp) _ | refine Below.alloc ?_ (by first | omega | (simp; omega) | simp) _)
end Go.Proofs.YtjbnogjkgmkagaaGreatDoor
namespace Go.Proofs.YtjbnogjkgmkagaaGreatDoor
open Go Go.RowKit
attribute [local go_sem] Oper.semAt_some
theorem assert_group {F : Nat → Prop} {w0 : World} {d : Nd} {v : Value} (h : NdX F w0 d v) : ∃ (num : Int) (u : Value), ((∃ T q, u = .iface T q) ∨ u = .nilIface) ∧
  (∀ w, (Instr.typeAssert v 36 127 true).run Tryz.prog w = .ok (.tuple #[.agg #[.int .i64 num, u], .bool (ngrp d)]) w) ∧ ∀ n d', d = .group n d' → num = n := by
 obtain ⟨n, h⟩ := h
 cases n with
 | zero => exact h.elim
 | succ n =>
  cases d with
  | empty =>
   rcases h with rfl | rfl
   ·exact ⟨0, .nilIface, .inr rfl, ta_Empty_Group _, fun _ _ h => by cases h⟩
   ·exact ⟨0, .nilIface, .inr rfl, ta_nil_Group, fun _ _ h => by cases h⟩
  | one s => obtain rfl := h; exact ⟨0, .nilIface, .inr rfl, ta_One_Group _, fun _ _ h => by cases h⟩
  | cat l => obtain ⟨a, cap, rfl, _⟩ := h; exact ⟨0, .nilIface, .inr rfl, ta_Cat_Group _, fun _ _ h => by cases h⟩
  | alt l => obtain ⟨a, cap, rfl, _⟩ := h; exact ⟨0, .nilIface, .inr rfl, ta_Alt_Group _, fun _ _ h => by cases h⟩
  | rep d mn mx => obtain ⟨u, rfl, _⟩ := h; exact ⟨0, .nilIface, .inr rfl, ta_Rep_Group _, fun _ _ h => by cases h⟩
  | group num d => obtain ⟨u, rfl, hu⟩ := h; exact ⟨num, u, nd_shape hu, ta_Group_Group _, fun _ _ h => by cases h; rfl⟩
  | back num => obtain rfl := h; exact ⟨0, .nilIface, .inr rfl, ta_Back_Group _, fun _ _ h => by cases h⟩
  | start => obtain rfl := h; exact ⟨0, .nilIface, .inr rfl, ta_Start_Group _, fun _ _ h => by cases h⟩
  | fin => obtain rfl := h; exact ⟨0, .nilIface, .inr rfl, ta_End_Group _, fun _ _ h => by cases h⟩
end Go.Proofs.YtjbnogjkgmkagaaGreatDoor
namespace Go.Proofs.YtjbnogjkgmkagaaGreatDoor
open Go Go.RowKit
attribute [local go_sem] Oper.semAt_some
end Go.Proofs.YtjbnogjkgmkagaaGreatDoor
namespace Go.Proofs.YtjbnogjkgmkagaaGreatDoor
open Go Go.RowKit
def nemp : Nd → Bool
 | .empty => true
 | _ => false
def ncat : Nd → Bool
 | .cat _ => true
 | _ => false
def nrep : Nd → Bool
 | .rep _ _ _ => true
 | _ => false
def nsta : Nd → Bool
 | .start => true
 | _ => false
def nend : Nd → Bool
 | .fin => true
 | _ => false
set_option linter.unusedSimpArgs false in
set_option maxRecDepth 100000 in
set_option maxHeartbeats 1000000 in
theorem isempty_any {F : Nat → Prop} (d : Nd) (v : Value) (w : World) (h : NdX F w d v) : Calls Tryz.prog 64 #[v] w fun e w' => e = .returned (.bool (nemp d)) ∧ Below w.heap.size w w' := by
 rcases nd_kinds h with ⟨rfl, rfl | rfl⟩ | ⟨s, rfl, rfl⟩ | ⟨l, a, cap, rfl, rfl, hr⟩ | ⟨l, a, cap, rfl, rfl, hr⟩ | ⟨d', mn, mx, u, rfl, rfl, hu⟩ | ⟨num, d', u, rfl, rfl, hu⟩ | ⟨num, rfl, rfl⟩ | ⟨rfl, rfl⟩ | ⟨rfl, rfl⟩
 all_goals
  go_enter Tryz.func64, Tryz.ntmps64
  go_wp2_with fail
  go_ret
  exact ⟨rfl, Below.refl _ _⟩
theorem assert_cat {F : Nat → Prop} {w0 : World} {d : Nd} {v : Value} (h : NdX F w0 d v) : ∃ a n c, ∀ w, (Instr.typeAssert v 36 122 true).run Tryz.prog w = .ok (.tuple #[.agg #[.slice a n c], .bool (ncat d)]) w := by
 rcases nd_kinds h with ⟨rfl, rfl | rfl⟩ | ⟨s, rfl, rfl⟩ | ⟨l, a, cap, rfl, rfl, hr⟩ | ⟨l, a, cap, rfl, rfl, hr⟩ | ⟨d', mn, mx, u, rfl, rfl, hu⟩ | ⟨num, d', u, rfl, rfl, hu⟩ | ⟨num, rfl, rfl⟩ | ⟨rfl, rfl⟩ | ⟨rfl, rfl⟩
 ·exact ⟨none, 0, 0, ta_Empty_Cat _⟩
 ·exact ⟨none, 0, 0, ta_nil_Cat⟩
 ·exact ⟨none, 0, 0, ta_One_Cat _⟩
 ·exact ⟨_, _, _, ta_Cat_Cat _⟩
 ·exact ⟨none, 0, 0, ta_Alt_Cat _⟩
 ·exact ⟨none, 0, 0, ta_Rep_Cat _⟩
 ·exact ⟨none, 0, 0, ta_Group_Cat _⟩
 ·exact ⟨none, 0, 0, ta_Back_Cat _⟩
 ·exact ⟨none, 0, 0, ta_Start_Cat _⟩
 ·exact ⟨none, 0, 0, ta_End_Cat _⟩
theorem assert_rep {F : Nat → Prop} {w0 : World} {d : Nd} {v : Value} (h : NdX F w0 d v) : ∃ u mn mx, ((∃ T q, u = .iface T q) ∨ u = .nilIface) ∧ (∀ w, (Instr.typeAssert v 36 125 true).run Tryz.prog w = .ok (.tuple #[.agg #[u, .int .i64 mn, .int .i64 mx], .bool (nrep d)]) w) ∧ ∀ d' a b, d = .rep d' a b → mn = a ∧ mx = b := by
 rcases nd_kinds h with ⟨rfl, rfl | rfl⟩ | ⟨s, rfl, rfl⟩ | ⟨l, a, cap, rfl, rfl, hr⟩ | ⟨l, a, cap, rfl, rfl, hr⟩ | ⟨d', mn, mx, u, rfl, rfl, hu⟩ | ⟨num, d', u, rfl, rfl, hu⟩ | ⟨num, rfl, rfl⟩ | ⟨rfl, rfl⟩ | ⟨rfl, rfl⟩
 ·exact ⟨.nilIface, 0, 0, .inr rfl, ta_Empty_Rep _, fun _ _ _ h => by cases h⟩
 ·exact ⟨.nilIface, 0, 0, .inr rfl, ta_nil_Rep, fun _ _ _ h => by cases h⟩
 ·exact ⟨.nilIface, 0, 0, .inr rfl, ta_One_Rep _, fun _ _ _ h => by cases h⟩
 ·exact ⟨.nilIface, 0, 0, .inr rfl, ta_Cat_Rep _, fun _ _ _ h => by cases h⟩
 ·exact ⟨.nilIface, 0, 0, .inr rfl, ta_Alt_Rep _, fun _ _ _ h => by cases h⟩
 ·exact ⟨u, mn, mx, hu.elim fun _ h => nd_shape h, ta_Rep_Rep _, fun _ _ _ h => by cases h; exact ⟨rfl, rfl⟩⟩
 ·exact ⟨.nilIface, 0, 0, .inr rfl, ta_Group_Rep _, fun _ _ _ h => by cases h⟩
 ·exact ⟨.nilIface, 0, 0, .inr rfl, ta_Back_Rep _, fun _ _ _ h => by cases h⟩
 ·exact ⟨.nilIface, 0, 0, .inr rfl, ta_Start_Rep _, fun _ _ _ h => by cases h⟩
 ·exact ⟨.nilIface, 0, 0, .inr rfl, ta_End_Rep _, fun _ _ _ h => by cases h⟩
theorem assert_backn {F : Nat → Prop} {w0 : World} {d : Nd} {v : Value} (h : NdX F w0 d v) : ∃ num : Int, (∀ w, (Instr.typeAssert v 36 129 true).run Tryz.prog w = .ok (.tuple #[.agg #[.int .i64 num], .bool (nbck d)]) w) ∧ ∀ n, d = .back n → num = n := by
 rcases nd_kinds h with ⟨rfl, rfl | rfl⟩ | ⟨s, rfl, rfl⟩ | ⟨l, a, cap, rfl, rfl, hr⟩ | ⟨l, a, cap, rfl, rfl, hr⟩ | ⟨d', mn, mx, u, rfl, rfl, hu⟩ | ⟨num, d', u, rfl, rfl, hu⟩ | ⟨num, rfl, rfl⟩ | ⟨rfl, rfl⟩ | ⟨rfl, rfl⟩
 ·exact ⟨0, ta_Empty_Back _, fun _ h => by cases h⟩
 ·exact ⟨0, ta_nil_Back, fun _ h => by cases h⟩
 ·exact ⟨0, ta_One_Back _, fun _ h => by cases h⟩
 ·exact ⟨0, ta_Cat_Back _, fun _ h => by cases h⟩
 ·exact ⟨0, ta_Alt_Back _, fun _ h => by cases h⟩
 ·exact ⟨0, ta_Rep_Back _, fun _ h => by cases h⟩
 ·exact ⟨0, ta_Group_Back _, fun _ h => by cases h⟩
 ·exact ⟨num, ta_Back_Back _, fun _ h => by cases h; rfl⟩
 ·exact ⟨0, ta_Start_Back _, fun _ h => by cases h⟩
 ·exact ⟨0, ta_End_Back _, fun _ h => by cases h⟩
theorem assert_start {F : Nat → Prop} {w0 : World} {d : Nd} {v : Value} (h : NdX F w0 d v) : ∀ w, (Instr.typeAssert v 36 131 true).run Tryz.prog w = .ok (.tuple #[.agg #[], .bool (nsta d)]) w := by
 rcases nd_kinds h with ⟨rfl, rfl | rfl⟩ | ⟨s, rfl, rfl⟩ | ⟨l, a, cap, rfl, rfl, hr⟩ | ⟨l, a, cap, rfl, rfl, hr⟩ | ⟨d', mn, mx, u, rfl, rfl, hu⟩ | ⟨num, d', u, rfl, rfl, hu⟩ | ⟨num, rfl, rfl⟩ | ⟨rfl, rfl⟩ | ⟨rfl, rfl⟩
 ·exact ta_Empty_Start _
 ·exact ta_nil_Start
 ·exact ta_One_Start _
 ·exact ta_Cat_Start _
 ·exact ta_Alt_Start _
 ·exact ta_Rep_Start _
 ·exact ta_Group_Start _
 ·exact ta_Back_Start _
 ·exact ta_Start_Start _
 ·exact ta_End_Start _
theorem assert_end {F : Nat → Prop} {w0 : World} {d : Nd} {v : Value} (h : NdX F w0 d v) : ∀ w, (Instr.typeAssert v 36 132 true).run Tryz.prog w = .ok (.tuple #[.agg #[], .bool (nend d)]) w := by
 rcases nd_kinds h with ⟨rfl, rfl | rfl⟩ | ⟨s, rfl, rfl⟩ | ⟨l, a, cap, rfl, rfl, hr⟩ | ⟨l, a, cap, rfl, rfl, hr⟩ | ⟨d', mn, mx, u, rfl, rfl, hu⟩ | ⟨num, d', u, rfl, rfl, hu⟩ | ⟨num, rfl, rfl⟩ | ⟨rfl, rfl⟩ | ⟨rfl, rfl⟩
 ·exact ta_Empty_End _
 ·exact ta_nil_End
 ·exact ta_One_End _
 ·exact ta_Cat_End _
 ·exact ta_Alt_End _
 ·exact ta_Rep_End _
 ·exact ta_Group_End _
 ·exact ta_Back_End _
 ·exact ta_Start_End _
 ·exact ta_End_End _
theorem head_empty (e : Nd) : nhead .empty e = nemp e := by cases e <;> rfl
theorem head_one (s : OSet) (e : Nd) : nhead (.one s) e = nholds e s := by cases e <;> first | rfl | exact decide_eq_decide.2 ⟨Eq.symm, Eq.symm⟩
theorem head_cat (l : List Nd) (e : Nd) : nhead (.cat l) e = ncat e := by cases e <;> rfl
theorem head_alt (l : List Nd) (e : Nd) : nhead (.alt l) e = !inAlt e := by cases e <;> rfl
theorem head_start (e : Nd) : nhead .start e = nsta e := by cases e <;> rfl
theorem head_end (e : Nd) : nhead .fin e = nend e := by cases e <;> rfl
theorem head_rep (d : Nd) (mn mx : Int) (e : Nd) (p q : Int) (h : ∀ d' a b, e = .rep d' a b → p = a ∧ q = b) : nhead (.rep d mn mx) e = (nrep e && (mn == p) && (mx == q)) := by
 cases e with
 | rep e a b => obtain ⟨rfl, rfl⟩ := h _ _ _ rfl; rfl
 | _ => rfl
theorem head_group (d : Nd) (n : Int) (e : Nd) (p : Int) (h : ∀ k d', e = .group k d' → p = k) : nhead (.group n d) e = (ngrp e && (n == p)) := by
 cases e with
 | group k e => obtain rfl := h _ _ rfl; rfl
 | _ => rfl
theorem head_back (n : Int) (e : Nd) (p : Int) (h : ∀ k, e = .back k → p = k) : nhead (.back n) e = (nbck e && (n == p)) := by
 cases e with
 | back k => obtain rfl := h _ rfl; rfl
 | _ => rfl
set_option linter.unusedSimpArgs false in
set_option maxRecDepth 100000 in
set_option maxHeartbeats 4000000 in
theorem alike_any {F : Nat → Prop} (d e : Nd) (v y : Value) (w : World) (h : NdX F w d v) (k : NdX F w e y) : Calls Tryz.prog 43 #[v, y] w fun r w' => r = .returned (.bool (nhead d e)) ∧ Below w.heap.size w w' := by
 rcases nd_kinds h with ⟨rfl, rfl | rfl⟩ | ⟨s, rfl, rfl⟩ | ⟨l, a, cap, rfl, rfl, hr⟩ | ⟨l, a, cap, rfl, rfl, hr⟩ | ⟨d', mn, mx, u, rfl, rfl, hu⟩ | ⟨num, d', u, rfl, rfl, hu⟩ | ⟨num, rfl, rfl⟩ | ⟨rfl, rfl⟩ | ⟨rfl, rfl⟩
 ·rw [head_empty]
  have hC := isempty_any e y w k
  generalize nemp e = R at hC ⊢
  go_enter Tryz.func43, Tryz.ntmps43
  go_wp2_with (go_at_call 64; refine hC.mono ?_; rintro r w2 ⟨rfl, b2⟩)
  go_ret
  exact ⟨rfl, b2⟩
 ·rw [head_empty]
  have hC := isempty_any e y w k
  generalize nemp e = R at hC ⊢
  go_enter Tryz.func43, Tryz.ntmps43
  go_wp2_with (go_at_call 64; refine hC.mono ?_; rintro r w2 ⟨rfl, b2⟩)
  go_ret
  exact ⟨rfl, b2⟩
 ·rw [head_one]
  have hB := (Below.refl w.heap.size w).alloc (Nat.le_refl _) (.cells #[.int .u64 (ow s 0), .int .u64 (ow s 1), .int .u64 (ow s 2), .int .u64 (ow s 3)] 120)
  have hC := holds_any e y s _ (k.below hB)
  generalize nholds e s = R at hC ⊢
  go_enter Tryz.func43, Tryz.ntmps43
  go_wp2_with (go_at_call 65; refine hC.mono ?_; rintro r w2 ⟨rfl, b2⟩)
  go_ret
  exact ⟨rfl, hB.trans (b2.mono hB.size)⟩
 ·rw [head_cat]
  obtain ⟨a2, n2, c2, hTA⟩ := assert_cat k
  generalize ncat e = R at hTA ⊢
  go_enter Tryz.func43, Tryz.ntmps43
  go_wp2_with fail
  go_ret
  refine ⟨rfl, ?_⟩
  repeat (first | (with_reducible exact hW) | (with_reducible exact Below.refl _ _) | refine Below.drew ?_ | refine Below.setCell ?_ (by first | omega | (simp; omega) | simp) _ | refine Below.alloc ?_ (by first | omega | (simp; omega) | simp) _)
 ·rw [head_alt]
  have hB := (Below.refl w.heap.size w).alloc (Nat.le_refl _) (.cells #[.slice a l.length cap] 123)
  have hC := isalt_any e y _ (k.below hB)
  generalize (!inAlt e) = R at hC ⊢
  go_enter Tryz.func43, Tryz.ntmps43
  go_wp2_with (go_at_call 66; refine hC.mono ?_; rintro r w2 ⟨rfl, b2⟩)
  go_ret
  exact ⟨rfl, hB.trans (b2.mono hB.size)⟩
 ·obtain ⟨u2, p, q, hu2, hTA, hpq⟩ := assert_rep k
  rw [head_rep d' mn mx e p q hpq]
  have hu1 : (∃ T q, u = .iface T q) ∨ u = .nilIface := hu.elim fun _ h => nd_shape h
  generalize nrep e = R at hTA ⊢
  clear hpq k h hu
  rcases hu1 with ⟨T, q1, rfl⟩ | rfl
  all_goals
   rcases hu2 with ⟨T2, q2, rfl⟩ | rfl
   all_goals
    cases R
    ·go_enter Tryz.func43, Tryz.ntmps43
     go_wp2_with fail
     go_ret
     refine ⟨rfl, ?_⟩
     repeat (first | (with_reducible exact hW) | (with_reducible exact Below.refl _ _) | refine Below.drew ?_ | refine Below.setCell ?_ (by first | omega | (simp; omega) | simp) _ | refine Below.alloc ?_ (by first | omega | (simp; omega) | simp) _)
    ·cases hE : mn == p
     ·go_enter Tryz.func43, Tryz.ntmps43
      go_wp2_with fail
      go_ret
      refine ⟨rfl, ?_⟩
      repeat (first | (with_reducible exact hW) | (with_reducible exact Below.refl _ _) | refine Below.drew ?_ | refine Below.setCell ?_ (by first | omega | (simp; omega) | simp) _ | refine Below.alloc ?_ (by first | omega | (simp; omega) | simp) _)
     ·go_enter Tryz.func43, Tryz.ntmps43
      go_wp2_with fail
      go_ret
      refine ⟨rfl, ?_⟩
      repeat (first | (with_reducible exact hW) | (with_reducible exact Below.refl _ _) | refine Below.drew ?_ | refine Below.setCell ?_ (by first | omega | (simp; omega) | simp) _ | refine Below.alloc ?_ (by first | omega | (simp; omega) | simp) _)
 ·obtain ⟨p, u2, hu2, hTA, hpq⟩ := assert_group k
  rw [head_group d' num e p hpq]
  have hu1 : (∃ T q, u = .iface T q) ∨ u = .nilIface := hu.elim fun _ h => nd_shape h
  generalize ngrp e = R at hTA ⊢
  clear hpq k h hu
  rcases hu1 with ⟨T, q1, rfl⟩ | rfl
  all_goals
   rcases hu2 with ⟨T2, q2, rfl⟩ | rfl
   all_goals
    cases R
    all_goals
     go_enter Tryz.func43, Tryz.ntmps43
     go_wp2_with fail
     go_ret
     refine ⟨rfl, ?_⟩
     repeat (first | (with_reducible exact hW) | (with_reducible exact Below.refl _ _) | refine Below.drew ?_ | refine Below.setCell ?_ (by first | omega | (simp; omega) | simp) _ | refine Below.alloc ?_ (by first | omega | (simp; omega) | simp) _)
 ·obtain ⟨p, hTA, hpq⟩ := assert_backn k
  rw [head_back num e p hpq]
  generalize nbck e = R at hTA ⊢
  clear hpq k h
  cases R
  all_goals
   go_enter Tryz.func43, Tryz.ntmps43
   go_wp2_with fail
   go_ret
   refine ⟨rfl, ?_⟩
   repeat (first | (with_reducible exact hW) | (with_reducible exact Below.refl _ _) | refine Below.drew ?_ | refine Below.setCell ?_ (by first | omega | (simp; omega) | simp) _ | refine Below.alloc ?_ (by first | omega | (simp; omega) | simp) _)
 ·have hTA := assert_start k
  rw [head_start]
  generalize nsta e = R at hTA ⊢
  go_enter Tryz.func43, Tryz.ntmps43
  go_wp2_with fail
  go_ret
  refine ⟨rfl, ?_⟩
  repeat (first | (with_reducible exact hW) | (with_reducible exact Below.refl _ _) | refine Below.drew ?_ | refine Below.setCell ?_ (by first | omega | (simp; omega) | simp) _ | refine Below.alloc ?_ (by first | omega | (simp; omega) | simp) _)
 ·have hTA := assert_end k
  rw [head_end]
  generalize nend e = R at hTA ⊢
  go_enter Tryz.func43, Tryz.ntmps43
  go_wp2_with fail
  go_ret
  refine ⟨rfl, ?_⟩
  repeat (first | (with_reducible exact hW) | (with_reducible exact Below.refl _ _) | refine Below.drew ?_ | refine Below.setCell ?_ (by first | omega | (simp; omega) | simp) _ | refine Below.alloc ?_ (by first | omega | (simp; omega) | simp) _)
end Go.Proofs.YtjbnogjkgmkagaaGreatDoor
