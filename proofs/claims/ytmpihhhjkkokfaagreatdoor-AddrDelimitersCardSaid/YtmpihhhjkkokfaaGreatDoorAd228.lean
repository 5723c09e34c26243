/- The proof's texts AdWi, OctOpen, TrWk, TrCaught, NdAb: what the claim reaches of them. -/
import Derived.Test.YtmpihhhjkkokfaaGreatDoorAd227
import Derived.Test.YtmpihhhjkkokfaaGreatDoorRows
import Derived.Test.YtmpihhhjkkokfaaGreatDoorAd201
import Derived.WalkKit
import Derived.ProofKit
import Derived.OpenShut
import Derived.Test.YtmpihhhjkkokfaaGreatDoorAd202
import Derived.Deep.Slices
import Derived.Lib.LaidTab
import Derived.Lib.Hide
import Derived.ChangeKeysEq
import Derived.Deep.RegionHeld3
import Derived.Deep.DeepCutAuto
import Derived.Deep.RegionWith
import Derived.Deep.QuietTactic
import Derived.Test.YtmpihhhjkkokfaaGreatDoorAd212
import Derived.Defers
import Derived.Recover
import Derived.Tactics2
import Derived.Test.YtmpihhhjkkokfaaGreatDoorAd206
import Derived.RangeFuncBound
import Derived.RangeFuncCalls
import Derived.Shelf.Abstract
import Derived.Shelf.RegionOpen
import Derived.OwnWalkIn
import Derived.TacticsInMore
import Derived.LoopNIn
import Derived.LoopIn
import Derived.Sort.LoopGhostIn
import Derived.Sort.CutIn
import Derived.Maps.OwnIn
namespace Go.Proofs.YtmpihhhjkkokfaaGreatDoor
open Go Go.RowKit
set_option linter.unusedVariables false in
set_option linter.unusedSimpArgs false in
set_option maxRecDepth 100000 in
set_option maxHeartbeats 8000000 in
theorem pguard_at (ext : Bool) (s : ByteArray) (k : Nat) (w : World) (hs : s.size ≤ 4000000) (hk : k ≤ s.size) (hG : Gl w) (hP : GP w) :
  Calls Tryz.prog 13 #[.string s, .int .i64 (k : Int), .bool ext] w (GdA w (gdM ext s.data.toList k)) := by
 have hA := (Below.refl w.heap.size w).alloc (Nat.le_refl _) (.cells gdZ 50)
 have hR0 := Blk.new w gdZ 50 w.heap.size rfl
 obtain ⟨W, hW⟩ : ∃ W, w.alloc (.cells gdZ 50) = W := ⟨_, rfl⟩
 rw [hW] at hA hR0
 have hGW := hG.up hA
 have hPW := hP.up hA
 have hAd := padr_at ext false s k W hs hk hGW hPW
 unfold gdM
 have hwe : ∀ q, adM ext false s.data.toList k = .error q → q.1 ≠ 0 := fun q h => adM_err h
 have hle : ∀ q, adM ext false s.data.toList k = .ok q → q.2.2 ≤ s.size ∧ q.2.1.length ≤ 251 := fun q h => adM_le s (by omega) h
 generalize adM ext false s.data.toList k = R at hAd hwe hle ⊢
 obtain ⟨A, hans⟩ : ∃ A, gdOf s.data.toList (adTwo ext s.data.toList R) = A := ⟨_, rfl⟩
 rw [hans]
 have HAN := Lib.hid hans
 have HA := Lib.hid hA
 have HR0 := Lib.hid hR0
 have HG := Lib.hid hGW
 have HP := Lib.hid hPW
 clear hans hA hR0 hG hP hGW hPW
 cases R with
 | error q =>
  obtain ⟨n, p⟩ := q
  have hn : n ≠ 0 := hwe _ rfl
  have hnn : ((n : Int) != 0) = true := by simp; omega
  have HAE := Lib.hid (show (.error (n, p) : AdRd Grd) = A from HAN.out)
  clear hwe hn hle
  go_enter Tryz.func13, Tryz.ntmps13
  go_upto_region 2 with (go_at_call 9; refine hAd.mono ?_; clear hAd; rintro e w1 ⟨b1, rfl⟩; have B1 := Lib.hid (HA.out.trans (b1.mono HA.out.size)); have K1 := Lib.hid (HR0.out.below b1 HR0.out.lt); clear b1)
  have hlt1 := K1.out.lt
  generalize hW2 : w1.alloc _ = w2
  have hb2 := belowOfAlloc hW2
  have B2 := Lib.hid (B1.out.trans (hb2.mono B1.out.size))
  have K2 := Lib.hid (K1.out.below hb2 hlt1)
  clear hb2 hW2
  obtain ⟨⟨z0, z1, z2, z3, z4, z5, z6, z7, z8⟩, v0, v1, v2, v3, v4, v5, v6, v7, v8, hz⟩ := blk9v K2.out
  go_wp2_with fail
  first
   | (with_reducible refine post9v B2.out K2.out (Nat.le_refl _) ?_; intro w9 hB9 hk9 hs9 hz9)
   | (have hB9 := B2.out; have hk9 := K2.out; generalize w2 = w9 at *)
  clear z0 z1 z2 z3 z4 z5 z6 z7 z8 v0 v1 v2 v3 v4 v5 v6 v7 v8 hz
  obtain ⟨⟨z0, z1, z2, z3, z4, z5, z6, z7, z8⟩, _⟩ := blk9v hk9
  refine bodyPost_ret (v := .tuple #[.agg gdZ, .slice none 0 0, .int .i64 (p : Int), .int .i64 (n : Int)]) (by simp [results, Tryz.results13, go_sem, z0, z1, z2, z3, z4, z5, z6, z7, z8]) rfl ?_
  rw [← HAE.out]
  exact ⟨hB9, rfl⟩
 | ok q =>
  obtain ⟨a, ms, p⟩ := q
  clear hwe
  obtain ⟨hpl, hml⟩ := hle _ rfl
  simp only at hpl hml
  clear hle
  have hAd : Calls Tryz.prog 9 #[.string s, .int .i64 (k : Int), .bool ext, .bool false] W fun e w' => AdA W (.ok (a, ms, p)) e w' := hAd
  simp only [AdA] at hAd
  go_enter Tryz.func13, Tryz.ntmps13
  go_upto_region 2 with (go_at_call 9; refine hAd.mono ?_; clear hAd; rintro e w1 ⟨b1, ta, ma, mc, rfl, hta, hm⟩; have HT1 := Lib.hid hta; have HM1 := Lib.hid hm; have hsh := hta.shape; have B1 := Lib.hid (HA.out.trans (b1.mono HA.out.size)); have C1 := Lib.hid b1; have K1 := Lib.hid (HR0.out.below b1 HR0.out.lt); clear b1 hta hm; rcases hsh with ⟨T9, q9, rfl⟩ | rfl)
  all_goals
   have hlt1 := K1.out.lt
   generalize hW2 : w1.alloc _ = w2
   have hb2 := belowOfAlloc hW2
   have hX := blkOfAlloc hW2
   obtain ⟨x0, x1, x2, x3, _, _, _, _, hxl⟩ := blk4 hX
   have B2 := Lib.hid hb2
   clear hX
   go_upto_region 5 with fail
   generalize hW3 : w2.alloc _ = w3
   have hb3 := belowOfAlloc hW3
   have hY := blkOfAlloc hW3
   have hW0 := HR0.out.lt
   have hg : w.heap.size < w2.heap.size := by have := hb2.size; omega
   have hb13 := (B2.out.trans (hb3.mono B2.out.size))
   have S3 := Lib.hid (show GdSt w w2.heap.size a adNone _ .nilIface (.bool false) ms ma mc w3 from
    ⟨B1.out.trans (hb13.mono B1.out.size), K1.out.below hb13 hlt1, hY, hg,
     TrO.keep (F := fun b => W.heap.size ≤ b ∧ (Value.slice ma ms.length mc).ownBlock ≠ some b) hb13.size (fun b hb hl => ⟨⟨by have := hb.1; omega, by have := B2.out.size; omega, hb.2⟩, fun o => hb13.cell (p := ⟨b, o, none⟩) hl⟩) HT1.out, rfl,
     own_less (by omega) (nd_own_below HM1.out hb13), fun e => by have := co_own_lt9 HM1.out _ e; have := hb2.size; omega⟩)
   have D3 := Lib.hid (C1.out.trans (hb13.mono C1.out.size))
   obtain ⟨g, hgq⟩ : ∃ g, w2.heap.size = g := ⟨_, rfl⟩
   rw [hgq] at S3 ⊢
   have hxl3 : w1.heap.size < w3.heap.size := by have := hb13.size; have := hb3.size; omega
   replace x0 := (hb3.cell (p := ⟨w1.heap.size, 0, none⟩) hxl).trans x0
   replace x1 := (hb3.cell (p := ⟨w1.heap.size, 1, none⟩) hxl).trans x1
   replace x2 := (hb3.cell (p := ⟨w1.heap.size, 2, none⟩) hxl).trans x2
   replace x3 := (hb3.cell (p := ⟨w1.heap.size, 3, none⟩) hxl).trans x3
   clear hb2 hb3 hY hb13 hg hlt1 hW2 hW3 hW0 hgq
   obtain ⟨kd, hkd⟩ : ∃ kd, a.kind = kd := ⟨_, rfl⟩
   rw [hkd] at x0
   have Hkd := Lib.hid hkd
   by_cases hk0 : kd = 0
   ·subst hk0
    have HAE := Lib.hid (show gdEnd a adNone ms (adNot s.data.toList p) = A from by
     rw [← HAN.out]
     show _ = gdOf s.data.toList (if a.kind = 0 then _ else _)
     rw [if_pos Hkd.out]
     rfl)
    clear hkd
    go_upto_region 10 with fail
    (try clear x0); (try clear x1); (try clear x2); (try clear x3)
    have hnt := pnot_any s p w3 hs hpl
    have hne9 : ∀ q, adNot s.data.toList p = .error q → q.1 ≠ 0 := fun q h => adNot_err h
    generalize adNot s.data.toList p = N at hnt hne9 HAE
    obtain ⟨⟨y0, y1, y2, y3, y4, y5, y6, y7, y8⟩, f0, f1, f2, f3, f4, f5, f6, f7, f8, hyl⟩ := blk9v S3.out.q
    cases N with
    | error q =>
     obtain ⟨n2, p2⟩ := q
     have hn : n2 ≠ 0 := hne9 _ rfl
     have hnn : ((n2 : Int) != 0) = true := by simp; omega
     clear hne9 hn
     go_upto_region 11 with (go_at_call 35; refine hnt.mono ?_; clear hnt; rintro e w8 ⟨b8, rfl⟩; have S8 := Lib.hid (S3.out.step b8); clear b8 y0 y1 y2 y3 y4 y5 y6 y7 y8 f0 f1 f2 f3 f4 f5 f6 f7 f8 hyl; obtain ⟨⟨y0, y1, y2, y3, y4, y5, y6, y7, y8⟩, f0, f1, f2, f3, f4, f5, f6, f7, f8, hyl⟩ := blk9v S8.out.q)
     have S9 := Lib.hid (S8.out.not (.bool false))
     clear y0 y1 y2 y3 y4 y5 y6 y7 y8 f0 f1 f2 f3 f4 f5 f6 f7 f8 hyl
     first
      | generalize w8.setCell ⟨g, 8, none⟩ (.bool false) = w9 at *
      | (replace S9 := S8; generalize w8 = w9 at *)
     obtain ⟨⟨z0, z1, z2, z3, z4, z5, z6, z7, z8⟩, v0, v1, v2, v3, v4, v5, v6, v7, v8, hz⟩ := blk9v S9.out.p
     go_wp2_with fail
     first
      | (with_reducible refine post9v S9.out.b0 S9.out.p (Nat.le_refl _) ?_; intro w10 hB9 hk9 hs9 hz9)
      | (have hB9 := S9.out.b0; have hk9 := S9.out.p; generalize w9 = w10 at *)
     clear z0 z1 z2 z3 z4 z5 z6 z7 z8 v0 v1 v2 v3 v4 v5 v6 v7 v8 hz
     obtain ⟨⟨z0, z1, z2, z3, z4, z5, z6, z7, z8⟩, _⟩ := blk9v hk9
     refine bodyPost_ret (v := .tuple #[.agg gdZ, .slice none 0 0, .int .i64 (p2 : Int), .int .i64 (n2 : Int)]) (by simp [results, Tryz.results13, go_sem, z0, z1, z2, z3, z4, z5, z6, z7, z8]) rfl ?_
     rw [← HAE.out]
     exact ⟨hB9, rfl⟩
    | ok q =>
     obtain ⟨no, p2⟩ := q
     clear hne9
     go_upto_region 11 with (go_at_call 35; refine hnt.mono ?_; clear hnt; rintro e w8 ⟨b8, rfl⟩; have S8 := Lib.hid (S3.out.step b8); clear b8 y0 y1 y2 y3 y4 y5 y6 y7 y8 f0 f1 f2 f3 f4 f5 f6 f7 f8 hyl; obtain ⟨⟨y0, y1, y2, y3, y4, y5, y6, y7, y8⟩, f0, f1, f2, f3, f4, f5, f6, f7, f8, hyl⟩ := blk9v S8.out.q)
     have S9 := Lib.hid (S8.out.not (.bool no))
     clear y0 y1 y2 y3 y4 y5 y6 y7 y8 f0 f1 f2 f3 f4 f5 f6 f7 f8 hyl
     generalize w8.setCell ⟨g, 8, none⟩ (.bool no) = w9 at *
     obtain ⟨⟨y0, y1, y2, y3, y4, y5, y6, y7, y8⟩, f0, f1, f2, f3, f4, f5, f6, f7, f8, hyl⟩ := blk9v S9.out.q
     obtain ⟨⟨z0, z1, z2, z3, z4, z5, z6, z7, z8⟩, v0, v1, v2, v3, v4, v5, v6, v7, v8, hz⟩ := blk9v S9.out.p
     have hwg := S9.out.pg
     go_wp2_with fail
     with_reducible refine post9v S9.out.b0 S9.out.p (Nat.le_refl _) ?_
     intro w10 hB9 hk9 hs9 hz9
     clear z0 z1 z2 z3 z4 z5 z6 z7 z8 v0 v1 v2 v3 v4 v5 v6 v7 v8 hz y0 y1 y2 y3 y4 y5 y6 y7 y8 f0 f1 f2 f3 f4 f5 f6 f7 f8 hyl
     obtain ⟨⟨z0, z1, z2, z3, z4, z5, z6, z7, z8⟩, _⟩ := blk9v hk9
     have hfin := S9.out.end hB9 hs9 hz9 p2
     rw [show (.ok (⟨_, _, no⟩, _, p2) : AdRd Grd) = A from HAE.out] at hfin
     exact bodyPost_ret (by simp [results, Tryz.results13, go_sem, z0, z1, z2, z3, z4, z5, z6, z7, z8]) rfl hfin
   ·have hkk : ((kd : Int) != 0) = true := by simp; omega
    have HAE := Lib.hid (show gdOf s.data.toList (adJoin a ms (adSec ext s.data.toList p)) = A from by
     rw [← HAN.out]
     show _ = gdOf s.data.toList (if a.kind = 0 then _ else _)
     rw [if_neg (by rw [Hkd.out]; exact hk0)])
    have hsc := psec_any ext s p w3 hs hpl (HG.out.up D3.out) (HP.out.up D3.out)
    have hne : ∀ q, adSec ext s.data.toList p = .error q → q.1 ≠ 0 := fun q h => adSec_err h
    have hle2 : ∀ q, adSec ext s.data.toList p = .ok q → q.2.2 ≤ s.size ∧ q.2.1.length ≤ 251 := fun q h => adSec_le s hpl h
    generalize adSec ext s.data.toList p = R2 at hsc hne hle2 HAE
    clear hkd hk0
    go_upto_region 6 with fail
    clear x0 x1 x2 x3
    cases R2 with
    | error q =>
     obtain ⟨n2, p2⟩ := q
     have hn : n2 ≠ 0 := hne _ rfl
     have hnn : ((n2 : Int) != 0) = true := by simp; omega
     clear hne hle2 hn
     go_upto_region 7 with (go_at_call 34; refine hsc.mono ?_; clear hsc; rintro e w5 ⟨b5, rfl⟩; have S5 := Lib.hid (S3.out.step b5); clear b5)
     generalize hW6 : w5.alloc _ = w6
     have S6 := Lib.hid (S5.out.step (belowOfAlloc hW6))
     clear hW6
     obtain ⟨⟨z0, z1, z2, z3, z4, z5, z6, z7, z8⟩, v0, v1, v2, v3, v4, v5, v6, v7, v8, hz⟩ := blk9v S6.out.p
     go_wp2_with fail
     first
      | (with_reducible refine post9v S6.out.b0 S6.out.p (Nat.le_refl _) ?_; intro w10 hB9 hk9 hs9 hz9)
      | (have hB9 := S6.out.b0; have hk9 := S6.out.p; generalize w6 = w10 at *)
     clear z0 z1 z2 z3 z4 z5 z6 z7 z8 v0 v1 v2 v3 v4 v5 v6 v7 v8 hz
     obtain ⟨⟨z0, z1, z2, z3, z4, z5, z6, z7, z8⟩, _⟩ := blk9v hk9
     refine bodyPost_ret (v := .tuple #[.agg gdZ, .slice none 0 0, .int .i64 (p2 : Int), .int .i64 (n2 : Int)]) (by simp [results, Tryz.results13, go_sem, z0, z1, z2, z3, z4, z5, z6, z7, z8]) rfl ?_
     rw [← HAE.out]
     exact ⟨hB9, rfl⟩
    | ok q =>
     obtain ⟨b, ms2, p2⟩ := q
     clear hne
     obtain ⟨hpl2, hml2⟩ := hle2 _ rfl
     simp only at hpl2 hml2
     clear hle2
     replace HAE := Lib.hid (show gdEnd a b (ms ++ ms2) (adNot s.data.toList p2) = A from HAE.out)
     have hsc : Calls Tryz.prog 34 #[.string s, .int .i64 (p : Int), .bool ext] w3 fun e w' => AdA w3 (.ok (b, ms2, p2)) e w' := hsc
     simp only [AdA] at hsc
     go_upto_region 7 with (go_at_call 34; refine hsc.mono ?_; clear hsc; rintro e w5 ⟨b5, tb, mb, mcb, rfl, htb, hmb⟩; have S5 := Lib.hid (S3.out.step b5); have T5 := Lib.hid htb; have M5 := Lib.hid hmb; have Z5 := Lib.hid b5.size; have hsh2 := htb.shape; clear b5 htb hmb; rcases hsh2 with ⟨T8, q8, rfl⟩ | rfl)
     all_goals
      generalize hW6 : w5.alloc _ = w6
      have hb6 := belowOfAlloc hW6
      have hX := blkOfAlloc hW6
      have S6 := Lib.hid (S5.out.step hb6)
      have T6 := Lib.hid (TrO.below hb6 T5.out)
      have M6 := Lib.hid (nd_own_below M5.out hb6)
      have HX := Lib.hid hX
      have Hg3 := Lib.hid S3.out.q.lt
      have Hq3 := Lib.hid (fun q (e : (Value.slice ma ms.length mc).ownBlock = some q) => co_own_lt9 S3.out.r q e)
      have Hx5 := Lib.hid (show w3.heap.size ≤ w5.heap.size from Z5.out)
      obtain ⟨x, hx⟩ : ∃ x, w5.heap.size = x := ⟨_, rfl⟩
      have Hxl := Lib.hid (show x < w6.heap.size by rw [← hx]; exact hX.lt)
      rw [hx] at HX Hx5 ⊢
      clear hb6 hX hW6 hx
      obtain ⟨x0, x1, x2, x3, _, _, _, _, hxl⟩ := blk4 HX.out
      obtain ⟨⟨y0, y1, y2, y3, y4, y5, y6, y7, y8⟩, f0, f1, f2, f3, f4, f5, f6, f7, f8, hyl⟩ := blk9v S6.out.q
      obtain ⟨i0, hi, hz0, hz1, hz2⟩ := mark_info
      have hm1 : ms.length + ms2.length ≤ maxLen := by unfold maxLen; omega
      have hm2 : (ms.length + ms2.length) * 24 ≤ 140737488355328 := by omega
      have hbs : w.heap.size + 1 ≤ w6.heap.size := by have := S6.out.pg; omega
      have hxo : (Value.slice ma ms.length mc).ownBlock ≠ some x := fun e => by have := Hq3.out x e; have := Hx5.out; omega
      have HXO := Lib.hid hxo
      clear hxo
      go_upto_region 9 with fail
      go_region_law (first
       | (refine step_append_any rfl _ _ 29 rfl (w.heap.size + 1) 81 i0 (.agg #[.int .i64 0, .string ⟨#[]⟩]) 2 24 Tryz.underlying29 hi hz0 hz1 hz2 rfl (by decide) (.slice ma ms.length mc) ms.length (wmC ms) rfl S6.out.r mb ms2.length mcb (wmC ms2) rfl (wmC_len ms2) (newsOf M6.out) (wmC_one ms2) hm1 hm2 hbs ?_; intro v7 w7 hown7 hgr7 hat7; obtain ⟨m7, c7, rfl⟩ := own_form' hown7; have HO7 := Lib.hid hown7; have HG7 := Lib.hid hgr7; have HA7 := Lib.hid hat7; have HX7 := Lib.hid (blkGrownR HX.out.drew hgr7 HXO.out); have HY7 := Lib.hid (blkGrownR S6.out.q.drew hgr7 S6.out.rg); clear hown7 hgr7 hat7 x0 x1 x2 x3 hxl y0 y1 y2 y3 y4 y5 y6 y7 y8 f0 f1 f2 f3 f4 f5 f6 f7 f8 hyl; obtain ⟨x0, x1, x2, x3, _, _, _, _, hxl⟩ := blk4 HX7.out; obtain ⟨⟨y0, y1, y2, y3, y4, y5, y6, y7, y8⟩, f0, f1, f2, f3, f4, f5, f6, f7, f8, hyl⟩ := blk9v HY7.out))
      all_goals
       have hS7 := HG7.out.size
       generalize hW8 : ((((w7.setCell ⟨g, 4, none⟩ _).setCell ⟨g, 5, none⟩ _).setCell ⟨g, 6, none⟩ _).setCell ⟨g, 7, none⟩ _) = w8
       obtain ⟨k1, k2, k3, k4⟩ := put4at HY7.out _ _ _ _ w8 hW8
       have hgl := S6.out.q.lt
       have hpg := S6.out.pg
       have hng : ∀ q, (Value.slice m7 (ms.length + ms2.length) c7).ownBlock = some q → q ≠ g := fun q e e2 => by
        subst e2
        rcases HA7.out with h | h
        ·exact S6.out.rg (h.symm.trans e)
        ·rw [h] at e; injection e with e; have : w6.heap.size = q := e; omega
       have S9 := Lib.hid (GdSt.sec S6.out Hg3.out Hq3.out T6.out (((S6.out.b0.drew).grown HG7.out S6.out.b0.size (fun q e => Nat.le_of_succ_le (own_of S6.out.r q e))).trans (k4 _ (Nat.le_of_lt hpg))) (by have : w6.heap.size ≤ w7.heap.size := hS7; omega)
        (fun y hy h1 h2 => (k2 y h1).trans (HG7.out.block y hy fun e => h2 e.symm)) k1 (own_row_same HO7.out fun q e => k2 q (hng q e)) (HA7.out.imp id fun e => ⟨_, e, Nat.le_refl _⟩))
       have Hm7 := Lib.hid (show (ms ++ ms2).length = ms.length + ms2.length from List.length_append)
       clear k1 k2 k3 k4 hgl hpg hng hS7 hW8 x0 x1 x2 x3 hxl y0 y1 y2 y3 y4 y5 y6 y7 y8 f0 f1 f2 f3 f4 f5 f6 f7 f8 hyl
       go_upto_region 10 with fail
       have hnt := pnot_any s p2 w8 hs hpl2
       have hne9 : ∀ q, adNot s.data.toList p2 = .error q → q.1 ≠ 0 := fun q h => adNot_err h
       generalize adNot s.data.toList p2 = N at hnt hne9 HAE
       obtain ⟨⟨y0, y1, y2, y3, y4, y5, y6, y7, y8⟩, f0, f1, f2, f3, f4, f5, f6, f7, f8, hyl⟩ := blk9v S9.out.q
       cases N with
       | error q =>
        obtain ⟨n2, p2⟩ := q
        have hn : n2 ≠ 0 := hne9 _ rfl
        have hnn : ((n2 : Int) != 0) = true := by simp; omega
        clear hne9 hn
        go_upto_region 11 with (go_at_call 35; refine hnt.mono ?_; clear hnt; rintro e w8 ⟨b8, rfl⟩; have S8 := Lib.hid (S9.out.step b8); clear b8 y0 y1 y2 y3 y4 y5 y6 y7 y8 f0 f1 f2 f3 f4 f5 f6 f7 f8 hyl; obtain ⟨⟨y0, y1, y2, y3, y4, y5, y6, y7, y8⟩, f0, f1, f2, f3, f4, f5, f6, f7, f8, hyl⟩ := blk9v S8.out.q)
        have S9 := Lib.hid (S8.out.not (.bool false))
        clear y0 y1 y2 y3 y4 y5 y6 y7 y8 f0 f1 f2 f3 f4 f5 f6 f7 f8 hyl
        first
         | generalize w8.setCell ⟨g, 8, none⟩ (.bool false) = w9 at *
         | (replace S9 := S8; generalize w8 = w9 at *)
        obtain ⟨⟨z0, z1, z2, z3, z4, z5, z6, z7, z8⟩, v0, v1, v2, v3, v4, v5, v6, v7, v8, hz⟩ := blk9v S9.out.p
        go_wp2_with fail
        first
         | (with_reducible refine post9v S9.out.b0 S9.out.p (Nat.le_refl _) ?_; intro w10 hB9 hk9 hs9 hz9)
         | (have hB9 := S9.out.b0; have hk9 := S9.out.p; generalize w9 = w10 at *)
        clear z0 z1 z2 z3 z4 z5 z6 z7 z8 v0 v1 v2 v3 v4 v5 v6 v7 v8 hz
        obtain ⟨⟨z0, z1, z2, z3, z4, z5, z6, z7, z8⟩, _⟩ := blk9v hk9
        refine bodyPost_ret (v := .tuple #[.agg gdZ, .slice none 0 0, .int .i64 (p2 : Int), .int .i64 (n2 : Int)]) (by simp [results, Tryz.results13, go_sem, z0, z1, z2, z3, z4, z5, z6, z7, z8]) rfl ?_
        rw [← HAE.out]
        exact ⟨hB9, rfl⟩
       | ok q =>
        obtain ⟨no, p2⟩ := q
        clear hne9
        go_upto_region 11 with (go_at_call 35; refine hnt.mono ?_; clear hnt; rintro e w8 ⟨b8, rfl⟩; have S8 := Lib.hid (S9.out.step b8); clear b8 y0 y1 y2 y3 y4 y5 y6 y7 y8 f0 f1 f2 f3 f4 f5 f6 f7 f8 hyl; obtain ⟨⟨y0, y1, y2, y3, y4, y5, y6, y7, y8⟩, f0, f1, f2, f3, f4, f5, f6, f7, f8, hyl⟩ := blk9v S8.out.q)
        have S9 := Lib.hid (S8.out.not (.bool no))
        clear y0 y1 y2 y3 y4 y5 y6 y7 y8 f0 f1 f2 f3 f4 f5 f6 f7 f8 hyl
        generalize w8.setCell ⟨g, 8, none⟩ (.bool no) = w9 at *
        obtain ⟨⟨y0, y1, y2, y3, y4, y5, y6, y7, y8⟩, f0, f1, f2, f3, f4, f5, f6, f7, f8, hyl⟩ := blk9v S9.out.q
        obtain ⟨⟨z0, z1, z2, z3, z4, z5, z6, z7, z8⟩, v0, v1, v2, v3, v4, v5, v6, v7, v8, hz⟩ := blk9v S9.out.p
        have hwg := S9.out.pg
        go_wp2_with fail
        with_reducible refine post9v S9.out.b0 S9.out.p (Nat.le_refl _) ?_
        intro w10 hB9 hk9 hs9 hz9
        clear z0 z1 z2 z3 z4 z5 z6 z7 z8 v0 v1 v2 v3 v4 v5 v6 v7 v8 hz y0 y1 y2 y3 y4 y5 y6 y7 y8 f0 f1 f2 f3 f4 f5 f6 f7 f8 hyl
        obtain ⟨⟨z0, z1, z2, z3, z4, z5, z6, z7, z8⟩, _⟩ := blk9v hk9
        have hfin := S9.out.end hB9 hs9 hz9 p2
        rw [show (.ok (⟨_, _, no⟩, _, p2) : AdRd Grd) = A from HAE.out] at hfin
        exact bodyPost_ret (by simp [results, Tryz.results13, go_sem, z0, z1, z2, z3, z4, z5, z6, z7, z8]) rfl hfin
end Go.Proofs.YtmpihhhjkkokfaaGreatDoor
namespace Go.Proofs.YtmpihhhjkkokfaaGreatDoor
open Go.ChangeShapes Go.WideShapes Go.ChangeAt Go.RowKit
theorem own : ownKnob Tryz.prog.godebug = none := by kernel_rfl
theorem laidOut : laidOutB Tryz.prog = true := by kernel_rfl
end Go.Proofs.YtmpihhhjkkokfaaGreatDoor
namespace Go.Proofs.YtmpihhhjkkokfaaGreatDoor
open Go.ChangeShapes Go.WideShapes Go.ChangeAt Go.RowKit
def tV (t : Tr) (a : Option Addr) (cap : Nat) : Value :=
 .agg #[.int .i64 t.kind, .int .u64 (ow t.set 0), .int .u64 (ow t.set 1), .int .u64 (ow t.set 2), .int .u64 (ow t.set 3), .slice a t.parts.length cap, .int .i64 t.mn, .int .i64 t.mx, .int .i64 t.num]
structure Cl9 (w : World) (b o : Nat) (t : Tr) (a : Option Addr) (cap : Nat) : Prop where
 k : w.cell? ⟨b, o, none⟩ = some (.int .i64 t.kind)
 s0 : w.cell? ⟨b, o + 1, none⟩ = some (.int .u64 (ow t.set 0))
 s1 : w.cell? ⟨b, o + 2, none⟩ = some (.int .u64 (ow t.set 1))
 s2 : w.cell? ⟨b, o + 3, none⟩ = some (.int .u64 (ow t.set 2))
 s3 : w.cell? ⟨b, o + 4, none⟩ = some (.int .u64 (ow t.set 3))
 p : w.cell? ⟨b, o + 5, none⟩ = some (.slice a t.parts.length cap)
 mn : w.cell? ⟨b, o + 6, none⟩ = some (.int .i64 t.mn)
 mx : w.cell? ⟨b, o + 7, none⟩ = some (.int .i64 t.mx)
 num : w.cell? ⟨b, o + 8, none⟩ = some (.int .i64 t.num)
def TrAt : Nat → World → Tr → Option Addr → Nat → Prop
 | 0, _, _, _, _ => False
 | n + 1, w, t, a, cap => t.parts.length ≤ cap ∧ cap ≤ maxLen ∧ (0 < t.parts.length → ∃ b o, a = some ⟨b, o, none⟩ ∧ b < w.heap.size ∧ ∀ i (h : i < t.parts.length), ∃ a' cap', Cl9 w b (o + i * 9) t.parts[i] a' cap' ∧ TrAt n w t.parts[i] a' cap')
theorem Cl9.below {w w' : World} {b o : Nat} {t : Tr} {a : Option Addr} {cap : Nat} {B : Nat} (h : Cl9 w b o t a cap) (hb : Below B w w') (hB : b < B) : Cl9 w' b o t a cap :=
 ⟨(hb.cell (p := ⟨b, _, none⟩) hB).trans h.k, (hb.cell (p := ⟨b, _, none⟩) hB).trans h.s0, (hb.cell (p := ⟨b, _, none⟩) hB).trans h.s1, (hb.cell (p := ⟨b, _, none⟩) hB).trans h.s2, (hb.cell (p := ⟨b, _, none⟩) hB).trans h.s3,
  (hb.cell (p := ⟨b, _, none⟩) hB).trans h.p, (hb.cell (p := ⟨b, _, none⟩) hB).trans h.mn, (hb.cell (p := ⟨b, _, none⟩) hB).trans h.mx, (hb.cell (p := ⟨b, _, none⟩) hB).trans h.num⟩
theorem TrAt.below {w w' : World} (hb : Below w.heap.size w w') : ∀ (n : Nat) (t : Tr) (a : Option Addr) (cap : Nat), TrAt n w t a cap → TrAt n w' t a cap := by
 intro n
 induction n with
 | zero => intro t a cap h; exact h
 | succ n ih =>
  intro t a cap h
  unfold TrAt at h ⊢
  refine ⟨h.1, h.2.1, fun h0 => ?_⟩
  obtain ⟨b, o, rfl, hlt, hk⟩ := h.2.2 h0
  refine ⟨b, o, rfl, Nat.lt_of_lt_of_le hlt hb.size, fun i hi => ?_⟩
  obtain ⟨a', cap', h9, hr⟩ := hk i hi
  exact ⟨a', cap', h9.below hb hlt, ih _ _ _ hr⟩
theorem TrAt.drew {w : World} : ∀ (n : Nat) (t : Tr) (a : Option Addr) (cap : Nat), TrAt n w t a cap → TrAt n w.drew t a cap := TrAt.below (Below.drew (Below.refl _ _))
theorem TrAt.len {n : Nat} {w : World} {t : Tr} {a : Option Addr} {cap : Nat} (h : TrAt n w t a cap) : t.parts.length ≤ cap ∧ cap ≤ maxLen := by
 cases n with
 | zero => exact h.elim
 | succ n => exact ⟨h.1, h.2.1⟩
theorem TrAt.more {w : World} : ∀ (n m : Nat) (t : Tr) (a : Option Addr) (cap : Nat), n ≤ m → TrAt n w t a cap → TrAt m w t a cap := by
 intro n
 induction n with
 | zero => intro m t a cap _ h; exact h.elim
 | succ n ih =>
  intro m t a cap hm h
  obtain ⟨m, rfl⟩ : ∃ m', m = m' + 1 := ⟨m - 1, by omega⟩
  unfold TrAt at h ⊢
  refine ⟨h.1, h.2.1, fun h0 => ?_⟩
  obtain ⟨b, o, rfl, hlt, hk⟩ := h.2.2 h0
  refine ⟨b, o, rfl, hlt, fun i hi => ?_⟩
  obtain ⟨a', cap', h9, hr⟩ := hk i hi
  exact ⟨a', cap', h9, ih _ _ _ _ (by omega) hr⟩
end Go.Proofs.YtmpihhhjkkokfaaGreatDoor
namespace Go.Proofs.YtmpihhhjkkokfaaGreatDoor
open Go.RowKit
abbrev tC (t : Tr) (a : Option Addr) (cap : Nat) : Array Value := #[.int .i64 t.kind, .int .u64 (ow t.set 0), .int .u64 (ow t.set 1), .int .u64 (ow t.set 2), .int .u64 (ow t.set 3), .slice a t.parts.length cap, .int .i64 t.mn, .int .i64 t.mx, .int .i64 t.num]
end Go.Proofs.YtmpihhhjkkokfaaGreatDoor
namespace Go.Proofs.YtmpihhhjkkokfaaGreatDoor
open Go.RowKit
abbrev zC : Array Value := #[.int .i64 0, .int .u64 0, .int .u64 0, .int .u64 0, .int .u64 0, .slice none 0 0, .int .i64 0, .int .i64 0, .int .i64 0]
def kb (t : Tr) : Nat := if (t.kind = 4 ∨ t.kind = 5) ∧ t.parts = [] then 1 else 0
def TrD (N : Nat) (w : World) (t : Tr) (a : Option Addr) (cap : Nat) : Prop := ∃ n, TrAt n w t a cap ∧ 2 * n + kb t ≤ N
def RowD (N : Nat) (w : World) (l : List Tr) (a : Option Addr) (cap : Nat) : Prop :=
 l.length ≤ cap ∧ cap ≤ maxLen ∧ (0 < l.length → ∃ b o, a = some ⟨b, o, none⟩ ∧ b < w.heap.size ∧ ∀ i (h : i < l.length), ∃ a' cap', Cl9 w b (o + i * 9) l[i] a' cap' ∧ TrD N w l[i] a' cap')
theorem TrD.below {N : Nat} {w w' : World} {t : Tr} {a : Option Addr} {cap : Nat} (h : TrD N w t a cap) (hb : Below w.heap.size w w') : TrD N w' t a cap := by
 obtain ⟨n, h1, h2⟩ := h
 exact ⟨n, TrAt.below hb _ _ _ _ h1, h2⟩
theorem RowD.below {N : Nat} {w w' : World} {l : List Tr} {a : Option Addr} {cap : Nat} (h : RowD N w l a cap) (hb : Below w.heap.size w w') : RowD N w' l a cap := by
 refine ⟨h.1, h.2.1, fun h0 => ?_⟩
 obtain ⟨b, o, rfl, hlt, hk⟩ := h.2.2 h0
 refine ⟨b, o, rfl, Nat.lt_of_lt_of_le hlt hb.size, fun i hi => ?_⟩
 obtain ⟨a', cap', h9, hr⟩ := hk i hi
 exact ⟨a', cap', h9.below hb hlt, hr.below hb⟩
theorem kb_le (t : Tr) : kb t ≤ 1 := by unfold kb; split <;> omega
theorem tz_at (w : World) : TrAt 1 w tz none 0 := ⟨Nat.le_refl 0, Nat.zero_le _, fun h => absurd h (by simp [tz, Tr.parts])⟩
theorem TrD.row {N : Nat} {w : World} {t : Tr} {a : Option Addr} {cap : Nat} (h : TrD (N + 1) w t a cap) : RowD N w t.parts a cap := by
 obtain ⟨n, h1, h2⟩ := h
 cases n with
 | zero => exact h1.elim
 | succ n =>
  refine ⟨h1.1, h1.2.1, fun h0 => ?_⟩
  obtain ⟨b, o, rfl, hlt, hk⟩ := h1.2.2 h0
  refine ⟨b, o, rfl, hlt, fun i hi => ?_⟩
  obtain ⟨a', cap', h9, hr⟩ := hk i hi
  have := kb_le t.parts[i]
  exact ⟨a', cap', h9, n, hr, by omega⟩
theorem TrD.tz {N : Nat} {w w' : World} {t : Tr} {a : Option Addr} {cap : Nat} (h : TrD (N + 1) w t a cap) (hk : t.kind = 4 ∨ t.kind = 5) (hp : t.parts = []) : TrD N w' Go.Proofs.YtmpihhhjkkokfaaGreatDoor.tz none 0 := by
 obtain ⟨n, h1, h2⟩ := h
 cases n with
 | zero => exact h1.elim
 | succ n =>
  refine ⟨1, tz_at w', ?_⟩
  have h3 : kb t = 1 := by unfold kb; rw [if_pos ⟨hk, hp⟩]
  have h4 : kb Go.Proofs.YtmpihhhjkkokfaaGreatDoor.tz = 0 := rfl
  omega
theorem row_one {N : Nat} {w : World} {x : Tr} {a : Option Addr} {cap : Nat} {T : TypeId} (h : TrD N w x a cap) : RowD N (w.alloc (.cells (tC x a cap) T)) [x] (some ⟨w.heap.size, 0, none⟩) 1 := by
 have hb := Blk.new w (tC x a cap) T _ rfl
 refine ⟨Nat.le_refl _, by decide, fun _ => ⟨w.heap.size, 0, rfl, hb.lt, fun i hi => ?_⟩⟩
 obtain rfl : i = 0 := by simp at hi; exact hi
 exact ⟨a, cap, ⟨(hb.cell 0).trans rfl, (hb.cell 1).trans rfl, (hb.cell 2).trans rfl, (hb.cell 3).trans rfl, (hb.cell 4).trans rfl, (hb.cell 5).trans rfl, (hb.cell 6).trans rfl, (hb.cell 7).trans rfl, (hb.cell 8).trans rfl⟩,
  h.below ((Below.refl _ _).alloc (Nat.le_refl _) _)⟩
set_option linter.unusedSimpArgs false in
set_option maxRecDepth 100000 in
set_option maxHeartbeats 1000000 in
theorem tof_any (N : Nat) (t : Tr) (a : Option Addr) (cap : Nat) (w : World) (h : TrD (N + 1) w t a cap) (hk : t.kind = 4 ∨ t.kind = 5) :
  Calls Tryz.prog 60 #[tV t a cap] w fun e w' => ∃ a' cap', e = .returned (tV (tof t) a' cap') ∧ TrD N w' (tof t) a' cap' ∧ Below w.heap.size w w' := by
 have hW := (Below.refl w.heap.size w).alloc (Nat.le_refl _) (.cells (tC t a cap) 38)
 have hR := h.row
 by_cases h0 : 0 < t.parts.length
 ·obtain ⟨b, o, rfl, hlt, hx⟩ := hR.2.2 h0
  obtain ⟨a', cap', h9, hr⟩ := hx 0 h0
  have hto : tof t = t.parts[0] := by
   unfold tof
   rw [List.headD_eq_head?_getD, List.head?_eq_getElem?, List.getElem?_eq_getElem h0]
   rfl
  rw [hto]
  have hl := hR.1
  have hl2 := hR.2.1
  unfold maxLen at hl2
  replace h9 := h9.below hW hlt
  replace hr := hr.below hW
  have e0 : ((t.parts.length : Int) == 0) = false := by rw [beq_eq_false_iff_ne]; omega
  obtain ⟨c0, c1, c2, c3, c4, c5, c6, c7, c8⟩ := h9
  simp only [Nat.zero_mul, Nat.add_zero] at c0 c1 c2 c3 c4 c5 c6 c7 c8
  clear hx hR h
  generalize t.parts[0] = x at *
  unfold tV
  go_enter Tryz.func60, Tryz.ntmps60
  go_wp2_with fail
  refine bodyPost_ret (v := tV x a' cap') (by simp [results, Tryz.results60, go_sem, tV]) rfl ⟨a', cap', rfl, hr.below ((Below.refl _ _).alloc (Nat.le_refl _) _), hW.alloc hW.size _⟩
 ·have hp : t.parts = [] := List.eq_nil_of_length_eq_zero (by omega)
  have hto : tof t = tz := by unfold tof; rw [hp]; rfl
  have hz := fun w' => h.tz (w' := w') hk hp
  rw [hto]
  have hpl : t.parts.length = 0 := by rw [hp]; rfl
  clear hR h
  unfold tV
  rw [hpl]
  go_enter Tryz.func60, Tryz.ntmps60
  go_wp2_with fail
  refine bodyPost_ret (v := tV tz none 0) (by simp [results, Tryz.results60, go_sem, tV, tz, Tr.kind, Tr.set, Tr.parts, Tr.mn, Tr.mx, Tr.num, ow_zero]) rfl ⟨none, 0, rfl, hz _, ?_⟩
  repeat (first | (with_reducible exact hW) | (with_reducible exact Below.refl _ _) | refine Below.setCell ?_ (by first | omega | (simp; omega) | simp) _ | refine Below.alloc ?_ (by first | omega | (simp; omega) | simp) _)
set_option linter.unusedSimpArgs false in
set_option maxRecDepth 100000 in
set_option maxHeartbeats 2000000 in
theorem kids_any (N : Nat) (t : Tr) (a : Option Addr) (cap : Nat) (w : World) (h : TrD (N + 1) w t a cap) :
  Calls Tryz.prog 43 #[tV t a cap] w fun e w' => ∃ a' cap', e = .returned (.slice a' (tkids t).length cap') ∧ RowD N w' (tkids t) a' cap' ∧ Below w.heap.size w w' := by
 have hW := (Below.refl w.heap.size w).alloc (Nat.le_refl _) (.cells (tC t a cap) 38)
 by_cases h23 : t.kind = 2 ∨ t.kind = 3
 ·have hk : tkids t = t.parts := by unfold tkids; rw [if_pos h23]
  have hR := h.row.below hW
  rw [hk]
  clear h hk
  rcases h23 with h2 | h3
  ·have e2 : (t.kind == 2) = true := by simp [h2]
   clear h2
   unfold tV
   go_enter Tryz.func43, Tryz.ntmps43
   go_wp2_with fail
   go_ret
   exact ⟨a, cap, rfl, hR, hW⟩
  ·have e2 : (t.kind == 2) = false := by simp [h3]
   have e3 : (t.kind == 3) = true := by simp [h3]
   clear h3
   unfold tV
   go_enter Tryz.func43, Tryz.ntmps43
   go_wp2_with fail
   go_ret
   exact ⟨a, cap, rfl, hR, hW⟩
 ·have e2 : (t.kind == 2) = false := by simp; omega
  have e3 : (t.kind == 3) = false := by simp; omega
  by_cases h45 : t.kind = 4 ∨ t.kind = 5
  ·have hk : tkids t = [tof t] := by unfold tkids; rw [if_neg h23, if_pos h45]
   rw [hk]
   have hO := tof_any N t a cap _ (h.below hW) h45
   unfold tV at hO ⊢
   clear h hk h23
   generalize tof t = x at hO ⊢
   rcases h45 with h4 | h5
   ·have e4 : (t.kind == 4) = true := by simp [h4]
    clear h4
    go_enter Tryz.func43, Tryz.ntmps43
    go_wp2_with fail
    refine hO.mono ?_
    clear hO
    rintro e w1 ⟨a', cap', rfl, hr, b1⟩
    replace hW := hW.trans (b1.mono hW.size)
    clear b1
    go_wp2_with fail
    go_ret
    exact ⟨some ⟨w1.heap.size, 0, none⟩, 1, rfl, row_one hr, hW.alloc hW.size _⟩
   ·have e4 : (t.kind == 4) = false := by simp [h5]
    have e5 : (t.kind == 5) = true := by simp [h5]
    clear h5
    go_enter Tryz.func43, Tryz.ntmps43
    go_wp2_with fail
    refine hO.mono ?_
    clear hO
    rintro e w1 ⟨a', cap', rfl, hr, b1⟩
    replace hW := hW.trans (b1.mono hW.size)
    clear b1
    go_wp2_with fail
    go_ret
    exact ⟨some ⟨w1.heap.size, 0, none⟩, 1, rfl, row_one hr, hW.alloc hW.size _⟩
  ·have hk : tkids t = [] := by unfold tkids; rw [if_neg h23, if_neg h45]
   have e4 : (t.kind == 4) = false := by simp; omega
   have e5 : (t.kind == 5) = false := by simp; omega
   rw [hk]
   clear h hk h23 h45
   unfold tV
   go_enter Tryz.func43, Tryz.ntmps43
   go_wp2_with fail
   go_ret
   exact ⟨none, 0, rfl, ⟨Nat.le_refl 0, Nat.zero_le _, fun h => absurd h (by simp)⟩, hW⟩
end Go.Proofs.YtmpihhhjkkokfaaGreatDoor
namespace Go.Proofs.YtmpihhhjkkokfaaGreatDoor
open Go.RowKit
theorem trd_zero {w : World} {t : Tr} {a : Option Addr} {cap : Nat} (h : TrD 0 w t a cap) : False := by
 obtain ⟨n, h1, h2⟩ := h
 cases n with
 | zero => exact h1
 | succ n => omega
end Go.Proofs.YtmpihhhjkkokfaaGreatDoor
namespace Go.Proofs.YtmpihhhjkkokfaaGreatDoor
open Go.RowKit
theorem rpart0 (a b c d : Int) (w : World) : (part 33 #[.int .u64 a, .int .u64 b, .int .u64 c, .int .u64 d] (0 * 1)).run Tryz.prog w = .ok (.int .u64 a) w := by kernel_rfl
theorem rpart1 (a b c d : Int) (w : World) : (part 33 #[.int .u64 a, .int .u64 b, .int .u64 c, .int .u64 d] 1).run Tryz.prog w = .ok (.int .u64 b) w := by kernel_rfl
theorem rpart2 (a b c d : Int) (w : World) : (part 33 #[.int .u64 a, .int .u64 b, .int .u64 c, .int .u64 d] 2).run Tryz.prog w = .ok (.int .u64 c) w := by kernel_rfl
theorem rpart3 (a b c d : Int) (w : World) : (part 33 #[.int .u64 a, .int .u64 b, .int .u64 c, .int .u64 d] 3).run Tryz.prog w = .ok (.int .u64 d) w := by kernel_rfl
set_option linter.unusedSimpArgs false in
theorem req_items (a b c d a' b' c' d' : Int) (w : World) : (Op.eqItems 9999 33 1 #[.int .u64 a, .int .u64 b, .int .u64 c, .int .u64 d] #[.int .u64 a', .int .u64 b', .int .u64 c', .int .u64 d'] [0, 1, 2, 3]).run Tryz.prog w = .ok (a == a' && (b == b' && (c == c' && d == d'))) w := by
 have h := fun (x y : Int) (w : World) => (run_equalIn_int (P := Tryz.prog) w 9998 33 .u64 .u64 x y Tryz.underlying33 : (Op.equalIn 9999 33 (.int .u64 x) (.int .u64 y)).run Tryz.prog w = _)
 simp only [Op.eqItems, Sem.run_bind, rpart0, h, Result.andThen_ok]
 cases ha : a == a' <;> cases hb : b == b' <;> cases hc : c == c' <;> cases hd : d == d' <;> simp [ha, hb, hc, hd, h, rpart1, rpart2, rpart3]
theorem rset_beq (s t : OSet) : (ow s 0 == ow t 0 && (ow s 1 == ow t 1 && (ow s 2 == ow t 2 && ow s 3 == ow t 3))) = decide (s = t) := by
 by_cases h : s = t
 ·subst h; simp
 ·have h2 := oset_ne h
  rw [decide_eq_false h]
  cases hx : (ow s 0 == ow t 0 && (ow s 1 == ow t 1 && (ow s 2 == ow t 2 && ow s 3 == ow t 3)))
  ·rfl
  ·exfalso
   simp only [Bool.and_eq_true, beq_iff_eq] at hx
   exact h2 hx
end Go.Proofs.YtmpihhhjkkokfaaGreatDoor
namespace Go.Proofs.YtmpihhhjkkokfaaGreatDoor
open Go Go.RowKit
def nholds (d : Nd) (s : OSet) : Bool := match d with
 | .one t => decide (t = s)
 | _ => false
theorem hset_eql (s t : OSet) (w : World) : (Op.equalIn 10000 96 (.agg #[.int .u64 (ow s 0), .int .u64 (ow s 1), .int .u64 (ow s 2), .int .u64 (ow s 3)]) (.agg #[.int .u64 (ow t 0), .int .u64 (ow t 1), .int .u64 (ow t 2), .int .u64 (ow t 3)])).run Tryz.prog w = .ok (decide (s = t)) w := by
 have hc : Tryz.prog.cellsOf 33 = 1 := by kernel_rfl
 have hi0 : (Tryz.prog.info? 33).isSome = true := by kernel_rfl
 obtain ⟨i, hi⟩ := Option.isSome_iff_exists.1 hi0
 rw [run_equalIn_array w 9999 (e := 33) (n := 4) _ _ Tryz.underlying96 hi]
 rw [hc, show List.range 4 = [0, 1, 2, 3] from rfl, req_items, rset_beq]
set_option linter.unusedSimpArgs false in
set_option maxRecDepth 100000 in
set_option maxHeartbeats 2000000 in
theorem holds_any {F : Nat → Prop} (d : Nd) (v : Value) (t : OSet) (w : World) (h : NdX F w d v) : Calls Tryz.prog 58 #[v, .agg #[.int .u64 (ow t 0), .int .u64 (ow t 1), .int .u64 (ow t 2), .int .u64 (ow t 3)]] w fun e w' => e = .returned (.bool (nholds d t)) ∧ Below w.heap.size w w' := by
 have hq := hset_eql
 rcases nd_kinds h with ⟨rfl, rfl | rfl⟩ | ⟨s, rfl, rfl⟩ | ⟨l, a, cap, rfl, rfl, hr⟩ | ⟨l, a, cap, rfl, rfl, hr⟩ | ⟨d', mn, mx, u, rfl, rfl, hu⟩ | ⟨num, d', u, rfl, rfl, hu⟩ | ⟨num, rfl, rfl⟩ | ⟨rfl, rfl⟩ | ⟨rfl, rfl⟩
 all_goals
  go_enter Tryz.func58, Tryz.ntmps58
  go_wp2_with fail
  go_ret
  refine ⟨rfl, ?_⟩
  repeat (first | (with_reducible exact Below.refl _ _) | refine Below.drew ?_ | refine Below.setCell ?_ (by first | omega | (simp; omega) | simp) _ | refine Below.alloc ?_ (by first | omega | (simp; omega) | simp) _)
end Go.Proofs.YtmpihhhjkkokfaaGreatDoor
namespace Go.Proofs.YtmpihhhjkkokfaaGreatDoor
open Go Go.RowKit
attribute [local go_sem] Oper.semAt_some
theorem assert_group {F : Nat → Prop} {w0 : World} {d : Nd} {v : Value} (h : NdX F w0 d v) : ∃ (num : Int) (u : Value), ((∃ T q, u = .iface T q) ∨ u = .nilIface) ∧
  (∀ w, (Instr.typeAssert v 26 105 true).run Tryz.prog w = .ok (.tuple #[.agg #[.int .i64 num, u], .bool (ngrp d)]) w) ∧ ∀ n d', d = .group n d' → num = n := by
 obtain ⟨n, h⟩ := h
 cases n with
 | zero => exact h.elim
 | succ n =>
  cases d with
  | empty =>
   rcases h with rfl | rfl
   ·exact ⟨0, .nilIface, .inr rfl, ta_Empty_Group _, fun _ _ h => by cases h⟩
   ·exact ⟨0, .nilIface, .inr rfl, ta_nil_Group, fun _ _ h => by cases h⟩
  | one s => obtain rfl := h; exact ⟨0, .nilIface, .inr rfl, ta_One_Group _, fun _ _ h => by cases h⟩
  | cat l => obtain ⟨a, cap, rfl, _⟩ := h; exact ⟨0, .nilIface, .inr rfl, ta_Cat_Group _, fun _ _ h => by cases h⟩
  | alt l => obtain ⟨a, cap, rfl, _⟩ := h; exact ⟨0, .nilIface, .inr rfl, ta_Alt_Group _, fun _ _ h => by cases h⟩
  | rep d mn mx => obtain ⟨u, rfl, _⟩ := h; exact ⟨0, .nilIface, .inr rfl, ta_Rep_Group _, fun _ _ h => by cases h⟩
  | group num d => obtain ⟨u, rfl, hu⟩ := h; exact ⟨num, u, nd_shape hu, ta_Group_Group _, fun _ _ h => by cases h; rfl⟩
  | back num => obtain rfl := h; exact ⟨0, .nilIface, .inr rfl, ta_Back_Group _, fun _ _ h => by cases h⟩
  | start => obtain rfl := h; exact ⟨0, .nilIface, .inr rfl, ta_Start_Group _, fun _ _ h => by cases h⟩
  | fin => obtain rfl := h; exact ⟨0, .nilIface, .inr rfl, ta_End_Group _, fun _ _ h => by cases h⟩
end Go.Proofs.YtmpihhhjkkokfaaGreatDoor
namespace Go.Proofs.YtmpihhhjkkokfaaGreatDoor
open Go Go.RowKit
attribute [local go_sem] Oper.semAt_some
end Go.Proofs.YtmpihhhjkkokfaaGreatDoor
