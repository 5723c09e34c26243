/- The proof's texts AdWi, CmMa, CmWa, CmWb: what the claim reaches of them. -/
import Derived.Test.YtbgfankoojjejaaGreatDoorTb28
import Derived.Test.YtbgfankoojjejaaGreatDoorTb05
import Derived.Test.YtbgfankoojjejaaGreatDoorTb06
namespace Go.Proofs.YtbgfankoojjejaaGreatDoor
open Go Go.RowKit
set_option linter.unusedVariables false in
set_option linter.unusedSimpArgs false in
set_option maxRecDepth 100000 in
set_option maxHeartbeats 8000000 in
theorem pguard_at (ext : Bool) (s : ByteArray) (k : Nat) (w : World) (hs : s.size ≤ 4000000) (hk : k ≤ s.size) (hG : Gl w) (hP : GP w) :
  Calls Tryz.prog 10 #[.string s, .int .i64 (k : Int), .bool ext] w (GdA w (gdM ext s.data.toList k)) := by
 have hA := (Below.refl w.heap.size w).alloc (Nat.le_refl _) (.cells gdZ 30)
 have hR0 := Blk.new w gdZ 30 w.heap.size rfl
 obtain ⟨W, hW⟩ : ∃ W, w.alloc (.cells gdZ 30) = W := ⟨_, rfl⟩
 rw [hW] at hA hR0
 have hGW := hG.up hA
 have hPW := hP.up hA
 have hAd := padr_at ext false s k W hs hk hGW hPW
 unfold gdM
 have hwe : ∀ q, adM ext false s.data.toList k = .error q → q.1 ≠ 0 := fun q h => adM_err h
 have hle : ∀ q, adM ext false s.data.toList k = .ok q → q.2.2 ≤ s.size ∧ q.2.1.length ≤ 251 := fun q h => adM_le s (by omega) h
 generalize adM ext false s.data.toList k = R at hAd hwe hle ⊢
 obtain ⟨A, hans⟩ : ∃ A, gdOf s.data.toList (adTwo ext s.data.toList R) = A := ⟨_, rfl⟩
 rw [hans]
 have HAN := Lib.hid hans
 have HA := Lib.hid hA
 have HR0 := Lib.hid hR0
 have HG := Lib.hid hGW
 have HP := Lib.hid hPW
 clear hans hA hR0 hG hP hGW hPW
 cases R with
 | error q =>
  obtain ⟨n, p⟩ := q
  have hn : n ≠ 0 := hwe _ rfl
  have hnn : ((n : Int) != 0) = true := by simp; omega
  have HAE := Lib.hid (show (.error (n, p) : AdRd Grd) = A from HAN.out)
  clear hwe hn hle
  go_enter Tryz.func10, Tryz.ntmps10
  go_upto_region 2 with (go_at_call 14; refine hAd.mono ?_; clear hAd; rintro e w1 ⟨b1, rfl⟩; have B1 := Lib.hid (HA.out.trans (b1.mono HA.out.size)); have K1 := Lib.hid (HR0.out.below b1 HR0.out.lt); clear b1)
  have hlt1 := K1.out.lt
  generalize hW2 : w1.alloc _ = w2
  have hb2 := belowOfAlloc hW2
  have B2 := Lib.hid (B1.out.trans (hb2.mono B1.out.size))
  have K2 := Lib.hid (K1.out.below hb2 hlt1)
  clear hb2 hW2
  obtain ⟨⟨z0, z1, z2, z3, z4, z5, z6, z7, z8⟩, v0, v1, v2, v3, v4, v5, v6, v7, v8, hz⟩ := blk9v K2.out
  go_wp2_with fail
  first
   | (with_reducible refine post9v B2.out K2.out (Nat.le_refl _) ?_; intro w9 hB9 hk9 hs9 hz9)
   | (have hB9 := B2.out; have hk9 := K2.out; generalize w2 = w9 at *)
  clear z0 z1 z2 z3 z4 z5 z6 z7 z8 v0 v1 v2 v3 v4 v5 v6 v7 v8 hz
  obtain ⟨⟨z0, z1, z2, z3, z4, z5, z6, z7, z8⟩, _⟩ := blk9v hk9
  refine bodyPost_ret (v := .tuple #[.agg gdZ, .slice none 0 0, .int .i64 (p : Int), .int .i64 (n : Int)]) (by simp [results, Tryz.results10, go_sem, z0, z1, z2, z3, z4, z5, z6, z7, z8]) rfl ?_
  rw [← HAE.out]
  exact ⟨hB9, rfl⟩
 | ok q =>
  obtain ⟨a, ms, p⟩ := q
  clear hwe
  obtain ⟨hpl, hml⟩ := hle _ rfl
  simp only at hpl hml
  clear hle
  have hAd : Calls Tryz.prog 14 #[.string s, .int .i64 (k : Int), .bool ext, .bool false] W fun e w' => AdA W (.ok (a, ms, p)) e w' := hAd
  simp only [AdA] at hAd
  go_enter Tryz.func10, Tryz.ntmps10
  go_upto_region 2 with (go_at_call 14; refine hAd.mono ?_; clear hAd; rintro e w1 ⟨b1, ta, ma, mc, rfl, hta, hm⟩; have HT1 := Lib.hid hta; have HM1 := Lib.hid hm; have hsh := hta.shape; have B1 := Lib.hid (HA.out.trans (b1.mono HA.out.size)); have C1 := Lib.hid b1; have K1 := Lib.hid (HR0.out.below b1 HR0.out.lt); clear b1 hta hm; rcases hsh with ⟨T9, q9, rfl⟩ | rfl)
  all_goals
   have hlt1 := K1.out.lt
   generalize hW2 : w1.alloc _ = w2
   have hb2 := belowOfAlloc hW2
   have hX := blkOfAlloc hW2
   obtain ⟨x0, x1, x2, x3, _, _, _, _, hxl⟩ := blk4 hX
   have B2 := Lib.hid hb2
   clear hX
   go_upto_region 5 with fail
   generalize hW3 : w2.alloc _ = w3
   have hb3 := belowOfAlloc hW3
   have hY := blkOfAlloc hW3
   have hW0 := HR0.out.lt
   have hg : w.heap.size < w2.heap.size := by have := hb2.size; omega
   have hb13 := (B2.out.trans (hb3.mono B2.out.size))
   have S3 := Lib.hid (show GdSt w w2.heap.size a adNone _ .nilIface (.bool false) ms ma mc w3 from
    ⟨B1.out.trans (hb13.mono B1.out.size), K1.out.below hb13 hlt1, hY, hg,
     TrO.keep (F := fun b => W.heap.size ≤ b ∧ (Value.slice ma ms.length mc).ownBlock ≠ some b) hb13.size (fun b hb hl => ⟨⟨by have := hb.1; omega, by have := B2.out.size; omega, hb.2⟩, fun o => hb13.cell (p := ⟨b, o, none⟩) hl⟩) HT1.out, rfl,
     own_less (by omega) (nd_own_below HM1.out hb13), fun e => by have := co_own_lt9 HM1.out _ e; have := hb2.size; omega⟩)
   have D3 := Lib.hid (C1.out.trans (hb13.mono C1.out.size))
   obtain ⟨g, hgq⟩ : ∃ g, w2.heap.size = g := ⟨_, rfl⟩
   rw [hgq] at S3 ⊢
   have hxl3 : w1.heap.size < w3.heap.size := by have := hb13.size; have := hb3.size; omega
   replace x0 := (hb3.cell (p := ⟨w1.heap.size, 0, none⟩) hxl).trans x0
   replace x1 := (hb3.cell (p := ⟨w1.heap.size, 1, none⟩) hxl).trans x1
   replace x2 := (hb3.cell (p := ⟨w1.heap.size, 2, none⟩) hxl).trans x2
   replace x3 := (hb3.cell (p := ⟨w1.heap.size, 3, none⟩) hxl).trans x3
   clear hb2 hb3 hY hb13 hg hlt1 hW2 hW3 hW0 hgq
   obtain ⟨kd, hkd⟩ : ∃ kd, a.kind = kd := ⟨_, rfl⟩
   rw [hkd] at x0
   have Hkd := Lib.hid hkd
   by_cases hk0 : kd = 0
   ·subst hk0
    have HAE := Lib.hid (show gdEnd a adNone ms (adNot s.data.toList p) = A from by
     rw [← HAN.out]
     show _ = gdOf s.data.toList (if a.kind = 0 then _ else _)
     rw [if_pos Hkd.out]
     rfl)
    clear hkd
    go_upto_region 10 with fail
    (try clear x0); (try clear x1); (try clear x2); (try clear x3)
    have hnt := pnot_any s p w3 hs hpl
    have hne9 : ∀ q, adNot s.data.toList p = .error q → q.1 ≠ 0 := fun q h => adNot_err h
    generalize adNot s.data.toList p = N at hnt hne9 HAE
    obtain ⟨⟨y0, y1, y2, y3, y4, y5, y6, y7, y8⟩, f0, f1, f2, f3, f4, f5, f6, f7, f8, hyl⟩ := blk9v S3.out.q
    cases N with
    | error q =>
     obtain ⟨n2, p2⟩ := q
     have hn : n2 ≠ 0 := hne9 _ rfl
     have hnn : ((n2 : Int) != 0) = true := by simp; omega
     clear hne9 hn
     go_upto_region 11 with (go_at_call 16; refine hnt.mono ?_; clear hnt; rintro e w8 ⟨b8, rfl⟩; have S8 := Lib.hid (S3.out.step b8); clear b8 y0 y1 y2 y3 y4 y5 y6 y7 y8 f0 f1 f2 f3 f4 f5 f6 f7 f8 hyl; obtain ⟨⟨y0, y1, y2, y3, y4, y5, y6, y7, y8⟩, f0, f1, f2, f3, f4, f5, f6, f7, f8, hyl⟩ := blk9v S8.out.q)
     have S9 := Lib.hid (S8.out.not (.bool false))
     clear y0 y1 y2 y3 y4 y5 y6 y7 y8 f0 f1 f2 f3 f4 f5 f6 f7 f8 hyl
     first
      | generalize w8.setCell ⟨g, 8, none⟩ (.bool false) = w9 at *
      | (replace S9 := S8; generalize w8 = w9 at *)
     obtain ⟨⟨z0, z1, z2, z3, z4, z5, z6, z7, z8⟩, v0, v1, v2, v3, v4, v5, v6, v7, v8, hz⟩ := blk9v S9.out.p
     go_wp2_with fail
     first
      | (with_reducible refine post9v S9.out.b0 S9.out.p (Nat.le_refl _) ?_; intro w10 hB9 hk9 hs9 hz9)
      | (have hB9 := S9.out.b0; have hk9 := S9.out.p; generalize w9 = w10 at *)
     clear z0 z1 z2 z3 z4 z5 z6 z7 z8 v0 v1 v2 v3 v4 v5 v6 v7 v8 hz
     obtain ⟨⟨z0, z1, z2, z3, z4, z5, z6, z7, z8⟩, _⟩ := blk9v hk9
     refine bodyPost_ret (v := .tuple #[.agg gdZ, .slice none 0 0, .int .i64 (p2 : Int), .int .i64 (n2 : Int)]) (by simp [results, Tryz.results10, go_sem, z0, z1, z2, z3, z4, z5, z6, z7, z8]) rfl ?_
     rw [← HAE.out]
     exact ⟨hB9, rfl⟩
    | ok q =>
     obtain ⟨no, p2⟩ := q
     clear hne9
     go_upto_region 11 with (go_at_call 16; refine hnt.mono ?_; clear hnt; rintro e w8 ⟨b8, rfl⟩; have S8 := Lib.hid (S3.out.step b8); clear b8 y0 y1 y2 y3 y4 y5 y6 y7 y8 f0 f1 f2 f3 f4 f5 f6 f7 f8 hyl; obtain ⟨⟨y0, y1, y2, y3, y4, y5, y6, y7, y8⟩, f0, f1, f2, f3, f4, f5, f6, f7, f8, hyl⟩ := blk9v S8.out.q)
     have S9 := Lib.hid (S8.out.not (.bool no))
     clear y0 y1 y2 y3 y4 y5 y6 y7 y8 f0 f1 f2 f3 f4 f5 f6 f7 f8 hyl
     generalize w8.setCell ⟨g, 8, none⟩ (.bool no) = w9 at *
     obtain ⟨⟨y0, y1, y2, y3, y4, y5, y6, y7, y8⟩, f0, f1, f2, f3, f4, f5, f6, f7, f8, hyl⟩ := blk9v S9.out.q
     obtain ⟨⟨z0, z1, z2, z3, z4, z5, z6, z7, z8⟩, v0, v1, v2, v3, v4, v5, v6, v7, v8, hz⟩ := blk9v S9.out.p
     have hwg := S9.out.pg
     go_wp2_with fail
     with_reducible refine post9v S9.out.b0 S9.out.p (Nat.le_refl _) ?_
     intro w10 hB9 hk9 hs9 hz9
     clear z0 z1 z2 z3 z4 z5 z6 z7 z8 v0 v1 v2 v3 v4 v5 v6 v7 v8 hz y0 y1 y2 y3 y4 y5 y6 y7 y8 f0 f1 f2 f3 f4 f5 f6 f7 f8 hyl
     obtain ⟨⟨z0, z1, z2, z3, z4, z5, z6, z7, z8⟩, _⟩ := blk9v hk9
     have hfin := S9.out.end hB9 hs9 hz9 p2
     rw [show (.ok (⟨_, _, no⟩, _, p2) : AdRd Grd) = A from HAE.out] at hfin
     exact bodyPost_ret (by simp [results, Tryz.results10, go_sem, z0, z1, z2, z3, z4, z5, z6, z7, z8]) rfl hfin
   ·have hkk : ((kd : Int) != 0) = true := by simp; omega
    have HAE := Lib.hid (show gdOf s.data.toList (adJoin a ms (adSec ext s.data.toList p)) = A from by
     rw [← HAN.out]
     show _ = gdOf s.data.toList (if a.kind = 0 then _ else _)
     rw [if_neg (by rw [Hkd.out]; exact hk0)])
    have hsc := psec_any ext s p w3 hs hpl (HG.out.up D3.out) (HP.out.up D3.out)
    have hne : ∀ q, adSec ext s.data.toList p = .error q → q.1 ≠ 0 := fun q h => adSec_err h
    have hle2 : ∀ q, adSec ext s.data.toList p = .ok q → q.2.2 ≤ s.size ∧ q.2.1.length ≤ 251 := fun q h => adSec_le s hpl h
    generalize adSec ext s.data.toList p = R2 at hsc hne hle2 HAE
    clear hkd hk0
    go_upto_region 6 with fail
    clear x0 x1 x2 x3
    cases R2 with
    | error q =>
     obtain ⟨n2, p2⟩ := q
     have hn : n2 ≠ 0 := hne _ rfl
     have hnn : ((n2 : Int) != 0) = true := by simp; omega
     clear hne hle2 hn
     go_upto_region 7 with (go_at_call 15; refine hsc.mono ?_; clear hsc; rintro e w5 ⟨b5, rfl⟩; have S5 := Lib.hid (S3.out.step b5); clear b5)
     generalize hW6 : w5.alloc _ = w6
     have S6 := Lib.hid (S5.out.step (belowOfAlloc hW6))
     clear hW6
     obtain ⟨⟨z0, z1, z2, z3, z4, z5, z6, z7, z8⟩, v0, v1, v2, v3, v4, v5, v6, v7, v8, hz⟩ := blk9v S6.out.p
     go_wp2_with fail
     first
      | (with_reducible refine post9v S6.out.b0 S6.out.p (Nat.le_refl _) ?_; intro w10 hB9 hk9 hs9 hz9)
      | (have hB9 := S6.out.b0; have hk9 := S6.out.p; generalize w6 = w10 at *)
     clear z0 z1 z2 z3 z4 z5 z6 z7 z8 v0 v1 v2 v3 v4 v5 v6 v7 v8 hz
     obtain ⟨⟨z0, z1, z2, z3, z4, z5, z6, z7, z8⟩, _⟩ := blk9v hk9
     refine bodyPost_ret (v := .tuple #[.agg gdZ, .slice none 0 0, .int .i64 (p2 : Int), .int .i64 (n2 : Int)]) (by simp [results, Tryz.results10, go_sem, z0, z1, z2, z3, z4, z5, z6, z7, z8]) rfl ?_
     rw [← HAE.out]
     exact ⟨hB9, rfl⟩
    | ok q =>
     obtain ⟨b, ms2, p2⟩ := q
     clear hne
     obtain ⟨hpl2, hml2⟩ := hle2 _ rfl
     simp only at hpl2 hml2
     clear hle2
     replace HAE := Lib.hid (show gdEnd a b (ms ++ ms2) (adNot s.data.toList p2) = A from HAE.out)
     have hsc : Calls Tryz.prog 15 #[.string s, .int .i64 (p : Int), .bool ext] w3 fun e w' => AdA w3 (.ok (b, ms2, p2)) e w' := hsc
     simp only [AdA] at hsc
     go_upto_region 7 with (go_at_call 15; refine hsc.mono ?_; clear hsc; rintro e w5 ⟨b5, tb, mb, mcb, rfl, htb, hmb⟩; have S5 := Lib.hid (S3.out.step b5); have T5 := Lib.hid htb; have M5 := Lib.hid hmb; have Z5 := Lib.hid b5.size; have hsh2 := htb.shape; clear b5 htb hmb; rcases hsh2 with ⟨T8, q8, rfl⟩ | rfl)
     all_goals
      generalize hW6 : w5.alloc _ = w6
      have hb6 := belowOfAlloc hW6
      have hX := blkOfAlloc hW6
      have S6 := Lib.hid (S5.out.step hb6)
      have T6 := Lib.hid (TrO.below hb6 T5.out)
      have M6 := Lib.hid (nd_own_below M5.out hb6)
      have HX := Lib.hid hX
      have Hg3 := Lib.hid S3.out.q.lt
      have Hq3 := Lib.hid (fun q (e : (Value.slice ma ms.length mc).ownBlock = some q) => co_own_lt9 S3.out.r q e)
      have Hx5 := Lib.hid (show w3.heap.size ≤ w5.heap.size from Z5.out)
      obtain ⟨x, hx⟩ : ∃ x, w5.heap.size = x := ⟨_, rfl⟩
      have Hxl := Lib.hid (show x < w6.heap.size by rw [← hx]; exact hX.lt)
      rw [hx] at HX Hx5 ⊢
      clear hb6 hX hW6 hx
      obtain ⟨x0, x1, x2, x3, _, _, _, _, hxl⟩ := blk4 HX.out
      obtain ⟨⟨y0, y1, y2, y3, y4, y5, y6, y7, y8⟩, f0, f1, f2, f3, f4, f5, f6, f7, f8, hyl⟩ := blk9v S6.out.q
      obtain ⟨i0, hi, hz0, hz1, hz2⟩ := mark_info
      have hm1 : ms.length + ms2.length ≤ maxLen := by unfold maxLen; omega
      have hm2 : (ms.length + ms2.length) * 24 ≤ 140737488355328 := by omega
      have hbs : w.heap.size + 1 ≤ w6.heap.size := by have := S6.out.pg; omega
      have hxo : (Value.slice ma ms.length mc).ownBlock ≠ some x := fun e => by have := Hq3.out x e; have := Hx5.out; omega
      have HXO := Lib.hid hxo
      clear hxo
      go_upto_region 9 with fail
      go_region_law (first
       | (refine step_append_any rfl _ _ 36 rfl (w.heap.size + 1) 77 i0 (.agg #[.int .i64 0, .string ⟨#[]⟩]) 2 24 Tryz.underlying36 hi hz0 hz1 hz2 rfl (by decide) (.slice ma ms.length mc) ms.length (wmC ms) rfl S6.out.r mb ms2.length mcb (wmC ms2) rfl (wmC_len ms2) (newsOf M6.out) (wmC_one ms2) hm1 hm2 hbs ?_; intro v7 w7 hown7 hgr7 hat7; obtain ⟨m7, c7, rfl⟩ := own_form' hown7; have HO7 := Lib.hid hown7; have HG7 := Lib.hid hgr7; have HA7 := Lib.hid hat7; have HX7 := Lib.hid (blkGrownR HX.out.drew hgr7 HXO.out); have HY7 := Lib.hid (blkGrownR S6.out.q.drew hgr7 S6.out.rg); clear hown7 hgr7 hat7 x0 x1 x2 x3 hxl y0 y1 y2 y3 y4 y5 y6 y7 y8 f0 f1 f2 f3 f4 f5 f6 f7 f8 hyl; obtain ⟨x0, x1, x2, x3, _, _, _, _, hxl⟩ := blk4 HX7.out; obtain ⟨⟨y0, y1, y2, y3, y4, y5, y6, y7, y8⟩, f0, f1, f2, f3, f4, f5, f6, f7, f8, hyl⟩ := blk9v HY7.out))
      all_goals
       have hS7 := HG7.out.size
       generalize hW8 : ((((w7.setCell ⟨g, 4, none⟩ _).setCell ⟨g, 5, none⟩ _).setCell ⟨g, 6, none⟩ _).setCell ⟨g, 7, none⟩ _) = w8
       obtain ⟨k1, k2, k3, k4⟩ := put4at HY7.out _ _ _ _ w8 hW8
       have hgl := S6.out.q.lt
       have hpg := S6.out.pg
       have hng : ∀ q, (Value.slice m7 (ms.length + ms2.length) c7).ownBlock = some q → q ≠ g := fun q e e2 => by
        subst e2
        rcases HA7.out with h | h
        ·exact S6.out.rg (h.symm.trans e)
        ·rw [h] at e; injection e with e; have : w6.heap.size = q := e; omega
       have S9 := Lib.hid (GdSt.sec S6.out Hg3.out Hq3.out T6.out (((S6.out.b0.drew).grown HG7.out S6.out.b0.size (fun q e => Nat.le_of_succ_le (own_of S6.out.r q e))).trans (k4 _ (Nat.le_of_lt hpg))) (by have : w6.heap.size ≤ w7.heap.size := hS7; omega)
        (fun y hy h1 h2 => (k2 y h1).trans (HG7.out.block y hy fun e => h2 e.symm)) k1 (own_row_same HO7.out fun q e => k2 q (hng q e)) (HA7.out.imp id fun e => ⟨_, e, Nat.le_refl _⟩))
       have Hm7 := Lib.hid (show (ms ++ ms2).length = ms.length + ms2.length from List.length_append)
       clear k1 k2 k3 k4 hgl hpg hng hS7 hW8 x0 x1 x2 x3 hxl y0 y1 y2 y3 y4 y5 y6 y7 y8 f0 f1 f2 f3 f4 f5 f6 f7 f8 hyl
       go_upto_region 10 with fail
       have hnt := pnot_any s p2 w8 hs hpl2
       have hne9 : ∀ q, adNot s.data.toList p2 = .error q → q.1 ≠ 0 := fun q h => adNot_err h
       generalize adNot s.data.toList p2 = N at hnt hne9 HAE
       obtain ⟨⟨y0, y1, y2, y3, y4, y5, y6, y7, y8⟩, f0, f1, f2, f3, f4, f5, f6, f7, f8, hyl⟩ := blk9v S9.out.q
       cases N with
       | error q =>
        obtain ⟨n2, p2⟩ := q
        have hn : n2 ≠ 0 := hne9 _ rfl
        have hnn : ((n2 : Int) != 0) = true := by simp; omega
        clear hne9 hn
        go_upto_region 11 with (go_at_call 16; refine hnt.mono ?_; clear hnt; rintro e w8 ⟨b8, rfl⟩; have S8 := Lib.hid (S9.out.step b8); clear b8 y0 y1 y2 y3 y4 y5 y6 y7 y8 f0 f1 f2 f3 f4 f5 f6 f7 f8 hyl; obtain ⟨⟨y0, y1, y2, y3, y4, y5, y6, y7, y8⟩, f0, f1, f2, f3, f4, f5, f6, f7, f8, hyl⟩ := blk9v S8.out.q)
        have S9 := Lib.hid (S8.out.not (.bool false))
        clear y0 y1 y2 y3 y4 y5 y6 y7 y8 f0 f1 f2 f3 f4 f5 f6 f7 f8 hyl
        first
         | generalize w8.setCell ⟨g, 8, none⟩ (.bool false) = w9 at *
         | (replace S9 := S8; generalize w8 = w9 at *)
        obtain ⟨⟨z0, z1, z2, z3, z4, z5, z6, z7, z8⟩, v0, v1, v2, v3, v4, v5, v6, v7, v8, hz⟩ := blk9v S9.out.p
        go_wp2_with fail
        first
         | (with_reducible refine post9v S9.out.b0 S9.out.p (Nat.le_refl _) ?_; intro w10 hB9 hk9 hs9 hz9)
         | (have hB9 := S9.out.b0; have hk9 := S9.out.p; generalize w9 = w10 at *)
        clear z0 z1 z2 z3 z4 z5 z6 z7 z8 v0 v1 v2 v3 v4 v5 v6 v7 v8 hz
        obtain ⟨⟨z0, z1, z2, z3, z4, z5, z6, z7, z8⟩, _⟩ := blk9v hk9
        refine bodyPost_ret (v := .tuple #[.agg gdZ, .slice none 0 0, .int .i64 (p2 : Int), .int .i64 (n2 : Int)]) (by simp [results, Tryz.results10, go_sem, z0, z1, z2, z3, z4, z5, z6, z7, z8]) rfl ?_
        rw [← HAE.out]
        exact ⟨hB9, rfl⟩
       | ok q =>
        obtain ⟨no, p2⟩ := q
        clear hne9
        go_upto_region 11 with (go_at_call 16; refine hnt.mono ?_; clear hnt; rintro e w8 ⟨b8, rfl⟩; have S8 := Lib.hid (S9.out.step b8); clear b8 y0 y1 y2 y3 y4 y5 y6 y7 y8 f0 f1 f2 f3 f4 f5 f6 f7 f8 hyl; obtain ⟨⟨y0, y1, y2, y3, y4, y5, y6, y7, y8⟩, f0, f1, f2, f3, f4, f5, f6, f7, f8, hyl⟩ := blk9v S8.out.q)
        have S9 := Lib.hid (S8.out.not (.bool no))
        clear y0 y1 y2 y3 y4 y5 y6 y7 y8 f0 f1 f2 f3 f4 f5 f6 f7 f8 hyl
        generalize w8.setCell ⟨g, 8, none⟩ (.bool no) = w9 at *
        obtain ⟨⟨y0, y1, y2, y3, y4, y5, y6, y7, y8⟩, f0, f1, f2, f3, f4, f5, f6, f7, f8, hyl⟩ := blk9v S9.out.q
        obtain ⟨⟨z0, z1, z2, z3, z4, z5, z6, z7, z8⟩, v0, v1, v2, v3, v4, v5, v6, v7, v8, hz⟩ := blk9v S9.out.p
        have hwg := S9.out.pg
        go_wp2_with fail
        with_reducible refine post9v S9.out.b0 S9.out.p (Nat.le_refl _) ?_
        intro w10 hB9 hk9 hs9 hz9
        clear z0 z1 z2 z3 z4 z5 z6 z7 z8 v0 v1 v2 v3 v4 v5 v6 v7 v8 hz y0 y1 y2 y3 y4 y5 y6 y7 y8 f0 f1 f2 f3 f4 f5 f6 f7 f8 hyl
        obtain ⟨⟨z0, z1, z2, z3, z4, z5, z6, z7, z8⟩, _⟩ := blk9v hk9
        have hfin := S9.out.end hB9 hs9 hz9 p2
        rw [show (.ok (⟨_, _, no⟩, _, p2) : AdRd Grd) = A from HAE.out] at hfin
        exact bodyPost_ret (by simp [results, Tryz.results10, go_sem, z0, z1, z2, z3, z4, z5, z6, z7, z8]) rfl hfin
end Go.Proofs.YtbgfankoojjejaaGreatDoor
namespace Go.Proofs.YtbgfankoojjejaaGreatDoor
set_option linter.unusedVariables false
abbrev Cp := Int × List UInt8
structure Sb where
 text : List UInt8
 tree : Option Nd
 parts : List Cp
 nth : Nat
 all : Bool
 prt : Bool
 file : List UInt8
structure Cmd where
 pl : Nat
 g : Grd
 name : UInt8
 arg : List UInt8
 sub : Sb
 table : List UInt8
structure CS where
 k : Nat
 c : Cmd
 ms : List Wm
abbrev CO := Nat × CS
def CS.go (st : CS) (k : Nat) : CS := { st with k := k }
def CS.arg (st : CS) (a : List UInt8) (k : Nat) : CS := { st with k := k, c := { st.c with arg := a } }
def CS.file (st : CS) (a : List UInt8) (k : Nat) : CS := { st with k := k, c := { st.c with sub := { st.c.sub with file := a } } }
def CS.mark (st : CS) (p : Nat) (w : List UInt8) : CS := { st with ms := st.ms ++ [((p : Int), ⟨w.toArray⟩)] }
def CS.name (st : CS) (b : UInt8) : CS := { st with k := st.k + 1, c := { st.c with name := b } }
def cmMost (b : UInt8) : Option Nat :=
 if b = 125 ∨ b = 58 then some 0
 else if b ∈ [61, 113, 81, 97, 105, 114] then some 1
 else if b ∈ [123, 100, 68, 103, 71, 104, 72, 108, 110, 78, 112, 80, 120, 122, 98, 116, 84, 99, 119, 115, 121] then some 2
 else none
def cmAdds (g : Grd) : Nat := if g.a.kind = 0 then 0 else if g.b.kind = 0 then 1 else 2
def cmTold (b : UInt8) : Bool := b == 81 || b == 84 || b == 122
def cmNameOf (st : CS) (b : UInt8) (m : Option Nat) : CO :=
 match m with
 | none => (13, st)
 | some n => if n < cmAdds st.c.g then (19, st) else (0, (if cmTold b = true then st.mark st.k [b] else st).name b)
def cmName (L : List UInt8) (st : CS) : CO :=
 match L.drop st.k with
 | [] => (5, st)
 | b :: _ => cmNameOf st b (cmMost b)
def cmLabel (L : List UInt8) (st : CS) : CO := ((pcName L st.k true).2.2, st.arg (pcName L st.k true).1 (pcName L st.k true).2.1)
def cmPer (L : List UInt8) (st : CS) : CO := if (cmLabel L st).1 = 14 then (0, (cmLabel L st).2.go (pcBlk L st.k)) else cmLabel L st
def cmLines (L : List UInt8) (st : CS) : CO := ((pcLin (L.drop st.k) st.k []).2.2, st.arg (pcLin (L.drop st.k) st.k []).1 (pcLin (L.drop st.k) st.k []).2.1)
def cmText (L : List UInt8) (st : CS) : CO :=
 match L.drop (pcBlk L st.k) with
 | [] => (11, st.go (pcBlk L st.k))
 | c :: t =>
  if c = 10 then (5, st.go (pcBlk L st.k))
  else if c = 92 ∧ t.head? = some 10 then cmLines L (st.go (pcBlk L st.k + 2))
  else cmLines L ((st.go (pcBlk L st.k)).mark st.c.pl [116, 101, 120, 116])
def cmFileA (L : List UInt8) (st : CS) : CO := if pcBlk L st.k = st.k then (2, st) else ((pcName L st.k false).2.2, st.arg (pcName L st.k false).1 (pcName L st.k false).2.1)
def cmFileS (L : List UInt8) (st : CS) : CO := if pcBlk L st.k = st.k then (2, st) else ((pcName L st.k false).2.2, st.file (pcName L st.k false).1 (pcName L st.k false).2.1)
def cmDel (L : List UInt8) (st : CS) : UInt8 × CO :=
 match L.drop st.k with
 | [] => (0, 5, st)
 | d :: _ => if d = 92 ∨ d = 10 then (0, 2, st) else (d, 0, st.go (st.k + 1))
def cmEnd (L : List UInt8) (st : CS) : CO :=
 match L.drop (pcBlk L st.k) with
 | [] => (0, st.go (pcBlk L st.k))
 | b :: _ => if b = 59 ∨ b = 10 ∨ b = 35 then (0, st.go (pcBlk L st.k)) else if b = 125 then (0, (st.go (pcBlk L st.k)).mark (pcBlk L st.k) [125]) else (17, st.go (pcBlk L st.k))
def CS.rx (st : CS) (t : List UInt8) (d : Option Nd) (ms : List Wm) (k : Nat) : CS := { st with k := k, c := { st.c with sub := { st.c.sub with text := t, tree := d } }, ms := st.ms ++ ms }
def cmRxOf (st : CS) (R : AdRd (List UInt8 × Nd)) : CO :=
 match R with
 | .error q => (q.1, st.rx [] none [] q.2)
 | .ok q => (0, st.rx q.1.1 (some q.1.2) q.2.1 q.2.2)
def cmRx (ext : Bool) (L : List UInt8) (d : UInt8) (st : CS) : CO := cmRxOf st (delimM ext L st.k d)
def cpEnd (ps : List Cp) (t : List UInt8) : List Cp := if t = [] then ps else ps ++ [(-1, t)]
def cpRun (n : Nat) : List UInt8 → Bool → List Cp → List UInt8 → List Cp × Nat
 | [], esc, ps, t => if esc = true then ([], 11) else (cpEnd ps t, 0)
 | b :: l, false, ps, t => if b = 92 then cpRun n l true ps t else if b = 38 then cpRun n l false (cpEnd ps t ++ [(0, [])]) [] else cpRun n l false ps (t ++ [b])
 | b :: l, true, ps, t =>
  if pcDigits.contains b = true then (if n < b.toNat - 48 then ([], 9) else cpRun n l false (cpEnd ps t ++ [(((b.toNat - 48 : Nat) : Int), [])]) [])
  else if b = 110 then cpRun n l false ps (t ++ [10]) else cpRun n l false ps (t ++ [b])
def cmTreeGroups (d : Option Nd) : Nat := match d with | none => 0 | some d => ngroups d
def CS.parts (st : CS) (ps : List Cp) (k : Nat) : CS := { st with k := k, c := { st.c with sub := { st.c.sub with parts := ps } } }
def cmRepOf (st : CS) (r : PcAns) (q : List Cp × Nat) : CO := if r.2.2 = 0 then (if q.2 = 0 then (0, st.parts q.1 r.2.1) else (q.2, st)) else (r.2.2, st.go r.2.1)
def cmRep (L : List UInt8) (d : UInt8) (st : CS) : CO := cmRepOf st (pcBetween L st.k d false) (cpRun (cmTreeGroups st.c.sub.tree) (pcBetween L st.k d false).1 false [] [])
def CS.all (st : CS) : CS := { st with k := st.k + 1, c := { st.c with sub := { st.c.sub with all := true } } }
def CS.prt (st : CS) : CS := { st with k := st.k + 1, c := { st.c with sub := { st.c.sub with prt := true } } }
def CS.nth (st : CS) (n k : Nat) : CS := { st with k := k, c := { st.c with sub := { st.c.sub with nth := n } } }
def cmAll (st : CS) : CO := if st.c.sub.all = true then (15, st) else (0, st.all)
def cmPrt (st : CS) : CO := if st.c.sub.prt = true then (15, st) else (0, st.prt)
def cmNthOf (st : CS) (r : Nat × Nat × Nat) : CO := if r.2.2 = 0 then (if st.c.sub.nth = 0 then (if r.1 = 0 then (1, st) else (0, st.nth r.1 r.2.1)) else (15, st)) else (r.2.2, st)
def cmNth (L : List UInt8) (st : CS) : CO := cmNthOf st (pcNum L st.k)
def cmFlag (L : List UInt8) (b : UInt8) (st : CS) : Option CO := if b = 103 then some (cmAll st) else if b = 112 then some (cmPrt st) else if pcDigits.contains b = true then some (cmNth L st) else none
def cmFlags (L : List UInt8) : Nat → CS → CO
 | 0, st => (0, st)
 | n + 1, st =>
  match L.drop st.k with
  | [] => (0, st)
  | b :: _ =>
   match cmFlag L b st with
   | some r => if r.1 = 0 then cmFlags L n r.2 else r
   | none => if b = 119 then cmFileS L (st.go (st.k + 1)) else cmEnd L st
def CO.then (r : CO) (f : CS → CO) : CO := if r.1 = 0 then f r.2 else r
def cmSub (ext : Bool) (L : List UInt8) (st : CS) : CO :=
 (cmDel L st).2.then fun s1 => (cmRx ext L (cmDel L st).1 s1).then fun s2 => (cmRep L (cmDel L st).1 s2).then fun s3 => cmFlags L (L.length + 1) s3
def cmList : List UInt8 → Bool → List UInt8 → Option (List UInt8)
 | [], esc, acc => if esc = true then none else some acc
 | b :: l, false, acc => if b = 92 then cmList l true acc else cmList l false (acc ++ [b])
 | b :: l, true, acc => if b = 110 then cmList l false (acc ++ [10]) else if b = 92 then cmList l false (acc ++ [92]) else none
def tbRun : List UInt8 → List UInt8 → List UInt8 → List UInt8 → Option (List UInt8)
 | [], _, _, T => some T
 | k :: ks, v, seen, T => if k ∈ seen then none else tbRun ks v.tail (k :: seen) (T.set k.toNat (v.headD 0))
def tbAll : List UInt8 := (List.range 256).map UInt8.ofNat
def tbOf (a b : Option (List UInt8)) : List UInt8 × Nat :=
 match a, b with
 | some ks, some vs => if ks.length = vs.length then (match tbRun ks vs [] tbAll with | none => ([], 15) | some T => (T, 0)) else ([], 18)
 | _, _ => ([], 18)
def cmTab (a b : List UInt8) : List UInt8 × Nat := tbOf (cmList a false []) (cmList b false [])
def CS.table (st : CS) (t : List UInt8) (k : Nat) : CS := { st with k := k, c := { st.c with table := t } }
def cmTblB (L : List UInt8) (st : CS) (p : Nat) (r : PcAns) (q : List UInt8 × Nat) : CO :=
 if r.2.2 = 0 then (if q.2 = 0 then cmEnd L (st.table q.1 r.2.1) else (q.2, st.go p)) else (r.2.2, st.go r.2.1)
def cmTblA (L : List UInt8) (d : UInt8) (st : CS) (r : PcAns) : CO :=
 if r.2.2 = 0 then cmTblB L st r.2.1 (pcBetween L r.2.1 d false) (cmTab r.1 (pcBetween L r.2.1 d false).1) else (r.2.2, st.go r.2.1)
def cmTbl (L : List UInt8) (st : CS) : CO := (cmDel L st).2.then fun s1 => cmTblA L (cmDel L st).1 s1 (pcBetween L s1.k (cmDel L st).1 false)
def cmTakes (ext : Bool) (L : List UInt8) (st : CS) : CO :=
 let b := st.c.name
 if b = 123 ∨ b = 125 then (0, st)
 else if b = 58 then cmLabel L st
 else if b = 98 ∨ b = 116 ∨ b = 84 then cmPer L st
 else if b = 97 ∨ b = 105 ∨ b = 99 then cmText L st
 else if b = 114 ∨ b = 119 then cmFileA L st
 else if b = 115 then cmSub ext L st
 else if b = 121 then cmTbl L st
 else cmEnd L st
def cmWhole (ext : Bool) (L : List UInt8) (st : CS) : CO := (cmName L st).then (cmTakes ext L)
def sb0 : Sb := ⟨[], none, [], 0, false, false, []⟩
def cmNew (g : Grd) (ms : List Wm) (k : Nat) : CS := ⟨k, ⟨k, g, 0, [], sb0, []⟩, ms⟩
def cmAns (r : CO) : AdRd Cmd := if r.1 = 0 then .ok (r.2.c, r.2.ms, r.2.k) else .error (r.1, r.2.k)
def cmOf (ext : Bool) (L : List UInt8) (R : AdRd Grd) : AdRd Cmd :=
 match R with
 | .error q => .error q
 | .ok q => cmAns (cmWhole ext L (cmNew q.1 q.2.1 q.2.2))
def cmM (ext : Bool) (L : List UInt8) (k : Nat) : AdRd Cmd := cmOf ext L (gdM ext L k)
end Go.Proofs.YtbgfankoojjejaaGreatDoor
namespace Go.Proofs.YtbgfankoojjejaaGreatDoor
open Go Go.RowKit
theorem blk24c {w : World} {b : Nat} {T : TypeId} {v0 v1 v2 v3 v4 v5 v6 v7 v8 v9 v10 v11 v12 v13 v14 v15 v16 v17 v18 v19 v20 v21 v22 v23 : Value} (h : Blk w b #[v0, v1, v2, v3, v4, v5, v6, v7, v8, v9, v10, v11, v12, v13, v14, v15, v16, v17, v18, v19, v20, v21, v22, v23] T) :
  (w.cell? ⟨b, 0, none⟩ = some v0 ∧ w.cell? ⟨b, 1, none⟩ = some v1 ∧ w.cell? ⟨b, 2, none⟩ = some v2) ∧ (w.cell? ⟨b, 3, none⟩ = some v3 ∧ w.cell? ⟨b, 4, none⟩ = some v4 ∧ w.cell? ⟨b, 5, none⟩ = some v5 ∧ w.cell? ⟨b, 6, none⟩ = some v6 ∧ w.cell? ⟨b, 7, none⟩ = some v7 ∧ w.cell? ⟨b, 8, none⟩ = some v8 ∧ w.cell? ⟨b, 9, none⟩ = some v9 ∧ w.cell? ⟨b, 10, none⟩ = some v10 ∧ w.cell? ⟨b, 11, none⟩ = some v11 ∧ w.cell? ⟨b, 12, none⟩ = some v12) ∧ (w.cell? ⟨b, 13, none⟩ = some v13 ∧ w.cell? ⟨b, 14, none⟩ = some v14 ∧ w.cell? ⟨b, 15, none⟩ = some v15 ∧ w.cell? ⟨b, 16, none⟩ = some v16 ∧ w.cell? ⟨b, 17, none⟩ = some v17 ∧ w.cell? ⟨b, 18, none⟩ = some v18 ∧ w.cell? ⟨b, 19, none⟩ = some v19 ∧ w.cell? ⟨b, 20, none⟩ = some v20 ∧ w.cell? ⟨b, 21, none⟩ = some v21 ∧ w.cell? ⟨b, 22, none⟩ = some v22 ∧ w.cell? ⟨b, 23, none⟩ = some v23) ∧ b < w.heap.size :=
 ⟨⟨(h.cell 0).trans rfl, (h.cell 1).trans rfl, (h.cell 2).trans rfl⟩, ⟨(h.cell 3).trans rfl, (h.cell 4).trans rfl, (h.cell 5).trans rfl, (h.cell 6).trans rfl, (h.cell 7).trans rfl, (h.cell 8).trans rfl, (h.cell 9).trans rfl, (h.cell 10).trans rfl, (h.cell 11).trans rfl, (h.cell 12).trans rfl⟩, ⟨(h.cell 13).trans rfl, (h.cell 14).trans rfl, (h.cell 15).trans rfl, (h.cell 16).trans rfl, (h.cell 17).trans rfl, (h.cell 18).trans rfl, (h.cell 19).trans rfl, (h.cell 20).trans rfl, (h.cell 21).trans rfl, (h.cell 22).trans rfl, (h.cell 23).trans rfl⟩, h.lt⟩
def cpC (l : List Cp) : List Value := l.flatMap fun c => [.int .i64 c.1, .string (txt c.2)]
theorem cpC_snoc (l : List Cp) (c : Cp) : cpC (l ++ [c]) = cpC l ++ [.int .i64 c.1, .string (txt c.2)] := by simp [cpC]
def cmC (s : ByteArray) (ext : Bool) (st : CS) (ta tb ts pv mv : Value) : Array Value :=
 #[.string s, .bool ext, .int .i64 (st.k : Int), .int .i64 (st.c.pl : Int), .int .i64 (st.c.g.a.kind : Int), .int .i64 (st.c.g.a.line : Int), .string (txt st.c.g.a.text), ta, .int .i64 (st.c.g.b.kind : Int), .int .i64 (st.c.g.b.line : Int), .string (txt st.c.g.b.text), tb, .bool st.c.g.no, .int .u8 st.c.name.toNat, .string (txt st.c.arg), .string (txt st.c.sub.text), ts, pv, .int .i64 (st.c.sub.nth : Int), .bool st.c.sub.all, .bool st.c.sub.prt, .string (txt st.c.sub.file), .string (txt st.c.table), mv]
structure CmSt (w : World) (p : Nat) (s : ByteArray) (ext : Bool) (st : CS) (ta tb ts : Value) (pa : Option Addr) (pc : Nat) (ma : Option Addr) (mc : Nat) (W : World) : Prop where
 b0 : Below w.heap.size w W
 q : Blk W p (cmC s ext st ta tb ts (.slice pa st.c.sub.parts.length pc) (.slice ma st.ms.length mc)) 51
 pg : w.heap.size ≤ p
 ha : TrO (fun b => w.heap.size ≤ b ∧ b ≠ p ∧ (Value.slice ma st.ms.length mc).ownBlock ≠ some b) W st.c.g.a.tree ta
 hb : TrO (fun b => w.heap.size ≤ b ∧ b ≠ p ∧ (Value.slice ma st.ms.length mc).ownBlock ≠ some b) W st.c.g.b.tree tb
 hs : TrO (fun b => w.heap.size ≤ b ∧ b ≠ p ∧ (Value.slice ma st.ms.length mc).ownBlock ≠ some b) W st.c.sub.tree ts
 r : W.ownsRow w.heap.size 77 2 (.slice ma st.ms.length mc) st.ms.length (wmC st.ms)
 rg : (Value.slice ma st.ms.length mc).ownBlock ≠ some p
 pr : W.ownsRow w.heap.size 43 2 (.slice pa st.c.sub.parts.length pc) st.c.sub.parts.length (cpC st.c.sub.parts)
 pp : ∀ b, (Value.slice pa st.c.sub.parts.length pc).ownBlock = some b → b ≠ p ∧ (Value.slice ma st.ms.length mc).ownBlock ≠ some b
def CmR (w : World) (p : Nat) (s : ByteArray) (ext : Bool) (st : CS) (W : World) : Prop := ∃ ta tb ts pa pc ma mc, CmSt w p s ext st ta tb ts pa pc ma mc W
theorem CmSt.step {w : World} {p : Nat} {s : ByteArray} {ext : Bool} {st : CS} {ta tb ts : Value} {pa : Option Addr} {pc : Nat} {ma : Option Addr} {mc : Nat} {W W' : World} (h : CmSt w p s ext st ta tb ts pa pc ma mc W) (hb : Below W.heap.size W W') : CmSt w p s ext st ta tb ts pa pc ma mc W' :=
 ⟨h.b0.trans (hb.mono h.b0.size), h.q.below hb h.q.lt, h.pg, h.ha.below hb, h.hb.below hb, h.hs.below hb, nd_own_below h.r hb, h.rg, nd_own_below h.pr hb, h.pp⟩
theorem CmR.step {w : World} {p : Nat} {s : ByteArray} {ext : Bool} {st : CS} {W W' : World} (h : CmR w p s ext st W) (hb : Below W.heap.size W W') : CmR w p s ext st W' := by
 obtain ⟨ta, tb, ts, pa, pc, ma, mc, h⟩ := h
 exact ⟨ta, tb, ts, pa, pc, ma, mc, h.step hb⟩
theorem CmSt.put {w : World} {p : Nat} {s : ByteArray} {ext : Bool} {st : CS} {ta tb ts : Value} {pa : Option Addr} {pc : Nat} {ma : Option Addr} {mc : Nat} {W : World} (h : CmSt w p s ext st ta tb ts pa pc ma mc W) (j : Nat) (v : Value) (st' : CS) (hg : st'.c.g = st.c.g) (ht : st'.c.sub.tree = st.c.sub.tree) (hp : st'.c.sub.parts = st.c.sub.parts) (hm : st'.ms = st.ms)
  (e : ∀ pv mv, (cmC s ext st ta tb ts pv mv).setIfInBounds j v = cmC s ext st' ta tb ts pv mv) : CmSt w p s ext st' ta tb ts pa pc ma mc (W.setCell ⟨p, j, none⟩ v) := by
 have o1 : ∀ b, b ≠ p → (W.setCell ⟨p, j, none⟩ v).heap[b]? = W.heap[b]? := fun b hb => Below.heap_setCell _ _ _ _ (fun e => hb e)
 have hsz : (W.setCell ⟨p, j, none⟩ v).heap.size = W.heap.size := by simp [World.setCell]
 have hk : ∀ {t x}, TrO (fun b => w.heap.size ≤ b ∧ b ≠ p ∧ (Value.slice ma st.ms.length mc).ownBlock ≠ some b) W t x → TrO (fun b => w.heap.size ≤ b ∧ b ≠ p ∧ (Value.slice ma st.ms.length mc).ownBlock ≠ some b) (W.setCell ⟨p, j, none⟩ v) t x := fun hk => TrO.keep (by omega) (fun b hb _ => ⟨hb, fun o => World.cell?_of_block (w := W) (a := ⟨b, o, none⟩) (o1 b hb.2.1)⟩) hk
 refine ⟨h.b0.setCell (p := ⟨p, j, none⟩) h.pg v, ?_, h.pg, ?_, ?_, ?_, ?_, ?_, ?_, ?_⟩
 ·have h9 := h.q.set j v
  rw [e] at h9
  rw [hp, hm]
  exact h9
 ·rw [hg, hm]; exact hk h.ha
 ·rw [hg, hm]; exact hk h.hb
 ·rw [ht, hm]; exact hk h.hs
 ·rw [hm]; exact own_row_same h.r fun b hb => o1 b fun e => h.rg (by rw [hb, e])
 ·rw [hm]; exact h.rg
 ·rw [hp]; exact own_row_same h.pr fun b hb => o1 b (h.pp b hb).1
 ·rw [hp, hm]; exact h.pp
theorem CmSt.go {w : World} {p : Nat} {s : ByteArray} {ext : Bool} {st : CS} {ta tb ts : Value} {pa : Option Addr} {pc : Nat} {ma : Option Addr} {mc : Nat} {W : World} (h : CmSt w p s ext st ta tb ts pa pc ma mc W) (k : Nat) : CmSt w p s ext (st.go k) ta tb ts pa pc ma mc (W.setCell ⟨p, 2, none⟩ (.int .i64 (k : Int))) :=
 h.put 2 _ (st.go k) rfl rfl rfl rfl fun _ _ => rfl
end Go.Proofs.YtbgfankoojjejaaGreatDoor
namespace Go.Proofs.YtbgfankoojjejaaGreatDoor
open Go Go.RowKit
theorem CmSt.push {w : World} {p : Nat} {s : ByteArray} {ext : Bool} {st : CS} {ta tb ts : Value} {pa : Option Addr} {pc : Nat} {ma : Option Addr} {mc : Nat} {W : World} (h : CmSt w p s ext st ta tb ts pa pc ma mc W) {W1 W6 : World} (hb : Below W.heap.size W W1) {n : Nat} {ms2 : List Wm} (hn : ms2.length = n) {a6 : Option Addr} {c6 : Nat}
  (hg : W1.grownBy W6 (Value.slice ma st.ms.length mc).ownBlock) (ho : W6.ownsRow w.heap.size 77 2 (.slice a6 (st.ms.length + n) c6) (st.ms.length + n) (wmC st.ms ++ wmC ms2))
  (hat : (Value.slice a6 (st.ms.length + n) c6).ownBlock = (Value.slice ma st.ms.length mc).ownBlock ∨ (Value.slice a6 (st.ms.length + n) c6).ownBlock = some W1.heap.size) :
  CmSt w p s ext { st with ms := st.ms ++ ms2 } ta tb ts pa pc a6 c6 (W6.setCell ⟨p, 23, none⟩ (.slice a6 (st.ms.length + n) c6)) := by
 subst hn
 have hl : (st.ms ++ ms2).length = st.ms.length + ms2.length := List.length_append
 have hs1 := hb.size
 have hs6 := hg.size
 have hp1 := h.q.lt
 have o1 : ∀ b, b ≠ p → (W6.setCell ⟨p, 23, none⟩ (.slice a6 (st.ms.length + ms2.length) c6)).heap[b]? = W6.heap[b]? := fun b hb => Below.heap_setCell _ _ _ _ (fun e => hb e)
 have hsz : (W6.setCell ⟨p, 23, none⟩ (.slice a6 (st.ms.length + ms2.length) c6)).heap.size = W6.heap.size := by simp [World.setCell]
 have hnew : ∀ b, b < W.heap.size → (Value.slice ma st.ms.length mc).ownBlock ≠ some b → (Value.slice a6 (st.ms.length + ms2.length) c6).ownBlock ≠ some b := fun b hl h1 e => by
  rcases hat with h2 | h2
  ·exact h1 (h2.symm.trans e)
  ·rw [h2] at e; injection e with e; omega
 have hkb : ∀ b, b < W.heap.size → b ≠ p → (Value.slice ma st.ms.length mc).ownBlock ≠ some b → (W6.setCell ⟨p, 23, none⟩ (.slice a6 (st.ms.length + ms2.length) c6)).heap[b]? = W.heap[b]? := fun b hl h1 h2 => by
  rw [o1 b h1, hg.block b (by omega) (fun e => h2 e.symm), hb.block b hl]
 have hk : ∀ {t x}, TrO (fun b => w.heap.size ≤ b ∧ b ≠ p ∧ (Value.slice ma st.ms.length mc).ownBlock ≠ some b) W t x → TrO (fun b => w.heap.size ≤ b ∧ b ≠ p ∧ (Value.slice a6 (st.ms.length + ms2.length) c6).ownBlock ≠ some b) (W6.setCell ⟨p, 23, none⟩ (.slice a6 (st.ms.length + ms2.length) c6)) t x := fun hk => TrO.keep (by omega) (fun b hb hl => ⟨⟨hb.1, hb.2.1, hnew b hl hb.2.2⟩, fun o => World.cell?_of_block (w := W) (a := ⟨b, o, none⟩) (hkb b hl hb.2.1 hb.2.2)⟩) hk
 have hb0 : Below w.heap.size w (W6.setCell ⟨p, 23, none⟩ (.slice a6 (st.ms.length + ms2.length) c6)) := by
  have h0 := h.b0
  have hs0 := h0.size
  refine ⟨hg.os.trans (hb.os.trans h0.os), hg.tape.trans (hb.tape.trans h0.tape), hg.output.trans (hb.output.trans h0.output), by omega, fun b hl => ?_⟩
  have := h.pg
  rw [hkb b (by omega) (by omega) (fun e => by have := own_of h.r b e; omega), h0.block b hl]
 refine ⟨hb0, ?_, h.pg, ?_, ?_, ?_, ?_, ?_, ?_, ?_⟩
 ·have h9 := (blkGrownR (h.q.below hb h.q.lt) hg h.rg).set 23 (.slice a6 (st.ms.length + ms2.length) c6)
  show Blk _ p (cmC s ext { st with ms := st.ms ++ ms2 } ta tb ts (.slice pa st.c.sub.parts.length pc) (.slice a6 (st.ms ++ ms2).length c6)) _
  rw [hl]
  exact h9
 ·show TrO (fun b => w.heap.size ≤ b ∧ b ≠ p ∧ (Value.slice a6 (st.ms ++ ms2).length c6).ownBlock ≠ some b) _ _ _
  rw [hl]; exact hk h.ha
 ·show TrO (fun b => w.heap.size ≤ b ∧ b ≠ p ∧ (Value.slice a6 (st.ms ++ ms2).length c6).ownBlock ≠ some b) _ _ _
  rw [hl]; exact hk h.hb
 ·show TrO (fun b => w.heap.size ≤ b ∧ b ≠ p ∧ (Value.slice a6 (st.ms ++ ms2).length c6).ownBlock ≠ some b) _ _ _
  rw [hl]; exact hk h.hs
 ·show World.ownsRow _ w.heap.size _ 2 (.slice a6 (st.ms ++ ms2).length c6) (st.ms ++ ms2).length (wmC (st.ms ++ ms2))
  rw [hl, wmC_app]
  exact own_row_same ho fun b hb => o1 b fun e => hnew p hp1 h.rg (by rw [hb, e])
 ·show (Value.slice a6 (st.ms ++ ms2).length c6).ownBlock ≠ some p
  rw [hl]; exact hnew p hp1 h.rg
 ·exact own_row_same h.pr fun b hb => hkb b (own_lt' h.pr b hb) (h.pp b hb).1 (h.pp b hb).2
 ·intro b hb
  show b ≠ p ∧ (Value.slice a6 (st.ms ++ ms2).length c6).ownBlock ≠ some b
  rw [hl]
  exact ⟨(h.pp b hb).1, hnew b (own_lt' h.pr b hb) (h.pp b hb).2⟩
set_option linter.unusedVariables false in
set_option linter.unusedSimpArgs false in
set_option maxRecDepth 100000 in
set_option maxHeartbeats 4000000 in
theorem kmark_any (w : World) (p : Nat) (s : ByteArray) (ext : Bool) (st : CS) (ta tb ts : Value) (pa : Option Addr) (pc : Nat) (ma : Option Addr) (mc : Nat) (wd : ByteArray) (W : World) (h : CmSt w p s ext st ta tb ts pa pc ma mc W) (hl : st.ms.length ≤ 100000) :
  Calls Tryz.prog 36 #[.pointer (some ⟨p, 0, none⟩), .string wd] W fun e W' => e = .returned (.tuple #[]) ∧ ∃ a6 c6, CmSt w p s ext (st.mark st.k wd.data.toList) ta tb ts pa pc a6 c6 W' := by
 obtain ⟨i0, hi, hz0, hz1, hz2⟩ := mark_info
 have HH := Lib.hid h
 have hplt := h.q.lt
 have k2 : W.cell? ⟨p, 2, none⟩ = some (.int .i64 (st.k : Int)) := (h.q.cell 2).trans rfl
 have k23 : W.cell? ⟨p, 23, none⟩ = some (.slice ma st.ms.length mc) := (h.q.cell 23).trans rfl
 have hm1 : st.ms.length + 1 ≤ maxLen := by unfold maxLen; omega
 have hm2 : (st.ms.length + 1) * 24 ≤ 140737488355328 := by omega
 have hlo : w.heap.size ≤ W.heap.size := h.b0.size
 have Hl := Lib.hid hlo
 clear h
 go_enter Tryz.func36, Tryz.ntmps36
 go_region_law (first
  | (refine step_append_any rfl _ _ 36 rfl w.heap.size 77 i0 (.agg #[.int .i64 0, .string ⟨#[]⟩]) 2 24 Tryz.underlying36 hi hz0 hz1 hz2 rfl (by decide) (.slice ma st.ms.length mc) st.ms.length (wmC st.ms) rfl (nd_own_below HH.out.r (by repeat (first | (with_reducible exact Below.refl _ _) | refine Below.drew ?_ | refine Below.alloc ?_ (Nat.le_refl _) _))) (some ⟨W.heap.size, 0, none⟩) 1 1 (wmC1 ((st.k : Int), wd)) rfl rfl (fun _ => ⟨_, rfl, wmC1_new W ((st.k : Int), wd) _⟩) (wmC1_one _) hm1 hm2 (by simp; omega) ?_; intro v6 w6 hown6 hgrow6 hat6; obtain ⟨a6, c6, rfl⟩ := own_form' hown6; have HP := Lib.hid (HH.out.push (n := 1) (ms2 := [((st.k : Int), wd)]) (((Below.refl W.heap.size W).alloc (Nat.le_refl _) _).drew) rfl hgrow6 (by simpa [wmC] using hown6) hat6); have f23 := (blkGrownR (HH.out.q.below (((Below.refl W.heap.size W).alloc (Nat.le_refl _) _).drew) HH.out.q.lt) hgrow6 HH.out.rg).frozen 23; have g23 : w6.cell? ⟨p, 23, none⟩ = some (.slice ma st.ms.length mc) := ((blkGrownR (HH.out.q.below (((Below.refl W.heap.size W).alloc (Nat.le_refl _) _).drew) HH.out.q.lt) hgrow6 HH.out.rg).cell 23).trans rfl; clear hown6 hgrow6 hat6))
 all_goals go_wp2_with fail
 all_goals go_end0
 all_goals exact ⟨rfl, _, _, HP.out⟩
end Go.Proofs.YtbgfankoojjejaaGreatDoor
