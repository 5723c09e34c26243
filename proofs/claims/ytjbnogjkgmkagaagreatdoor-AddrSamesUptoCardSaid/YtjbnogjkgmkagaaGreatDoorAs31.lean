/- The proof's texts AdOu, AdOv, AdWl: what the claim reaches of them. -/
import Derived.Test.YtjbnogjkgmkagaaGreatDoorAs30
import Derived.Deep.RegionHeld3
import Derived.Laws.Rows
import Derived.Deep.MidRow
import Derived.Laws.Tables
import Derived.Laws.CopyOwn
import Derived.Test.YtjbnogjkgmkagaaGreatDoorAs07
namespace Go.Proofs.YtjbnogjkgmkagaaGreatDoor
open Go Go.RowKit
abbrev C25 (w : World) (p : Nat) (v0 v1 v2 v3 v4 v5 v6 v7 v8 v9 v10 v11 v12 v13 v14 v15 v16 v17 v18 v19 v20 v21 v22 v23 v24 : Value) : Prop := w.cell? ⟨p, 0, none⟩ = some v0 ∧ w.cell? ⟨p, 1, none⟩ = some v1 ∧ w.cell? ⟨p, 2, none⟩ = some v2 ∧ w.cell? ⟨p, 3, none⟩ = some v3 ∧ w.cell? ⟨p, 4, none⟩ = some v4 ∧ w.cell? ⟨p, 5, none⟩ = some v5 ∧ w.cell? ⟨p, 6, none⟩ = some v6 ∧ w.cell? ⟨p, 7, none⟩ = some v7 ∧ w.cell? ⟨p, 8, none⟩ = some v8 ∧ w.cell? ⟨p, 9, none⟩ = some v9 ∧ w.cell? ⟨p, 10, none⟩ = some v10 ∧ w.cell? ⟨p, 11, none⟩ = some v11 ∧ w.cell? ⟨p, 12, none⟩ = some v12 ∧ w.cell? ⟨p, 13, none⟩ = some v13 ∧ w.cell? ⟨p, 14, none⟩ = some v14 ∧ w.cell? ⟨p, 15, none⟩ = some v15 ∧ w.cell? ⟨p, 16, none⟩ = some v16 ∧ w.cell? ⟨p, 17, none⟩ = some v17 ∧ w.cell? ⟨p, 18, none⟩ = some v18 ∧ w.cell? ⟨p, 19, none⟩ = some v19 ∧ w.cell? ⟨p, 20, none⟩ = some v20 ∧ w.cell? ⟨p, 21, none⟩ = some v21 ∧ w.cell? ⟨p, 22, none⟩ = some v22 ∧ w.cell? ⟨p, 23, none⟩ = some v23 ∧ w.cell? ⟨p, 24, none⟩ = some v24
theorem C25.of {w : World} {p : Nat} {T : TypeId} {v0 v1 v2 v3 v4 v5 v6 v7 v8 v9 v10 v11 v12 v13 v14 v15 v16 v17 v18 v19 v20 v21 v22 v23 v24 : Value} (h : Blk w p #[v0, v1, v2, v3, v4, v5, v6, v7, v8, v9, v10, v11, v12, v13, v14, v15, v16, v17, v18, v19, v20, v21, v22, v23, v24] T) : C25 w p v0 v1 v2 v3 v4 v5 v6 v7 v8 v9 v10 v11 v12 v13 v14 v15 v16 v17 v18 v19 v20 v21 v22 v23 v24 := (blk25v h).1
theorem C25.far {w w' : World} {p : Nat} {v0 v1 v2 v3 v4 v5 v6 v7 v8 v9 v10 v11 v12 v13 v14 v15 v16 v17 v18 v19 v20 v21 v22 v23 v24 : Value} (h : C25 w p v0 v1 v2 v3 v4 v5 v6 v7 v8 v9 v10 v11 v12 v13 v14 v15 v16 v17 v18 v19 v20 v21 v22 v23 v24) (e : w'.heap[p]? = w.heap[p]?) : C25 w' p v0 v1 v2 v3 v4 v5 v6 v7 v8 v9 v10 v11 v12 v13 v14 v15 v16 v17 v18 v19 v20 v21 v22 v23 v24 := by
 obtain ⟨h0, h1, h2, h3, h4, h5, h6, h7, h8, h9, h10, h11, h12, h13, h14, h15, h16, h17, h18, h19, h20, h21, h22, h23, h24⟩ := h
 have a : ∀ o, w'.cell? ⟨p, o, none⟩ = w.cell? ⟨p, o, none⟩ := fun o => World.cell?_of_block (w := w) (a := ⟨p, o, none⟩) e
 exact ⟨(a 0).trans h0, (a 1).trans h1, (a 2).trans h2, (a 3).trans h3, (a 4).trans h4, (a 5).trans h5, (a 6).trans h6, (a 7).trans h7, (a 8).trans h8, (a 9).trans h9, (a 10).trans h10, (a 11).trans h11, (a 12).trans h12, (a 13).trans h13, (a 14).trans h14, (a 15).trans h15, (a 16).trans h16, (a 17).trans h17, (a 18).trans h18, (a 19).trans h19, (a 20).trans h20, (a 21).trans h21, (a 22).trans h22, (a 23).trans h23, (a 24).trans h24⟩
theorem C25.drew {w : World} {p : Nat} {v0 v1 v2 v3 v4 v5 v6 v7 v8 v9 v10 v11 v12 v13 v14 v15 v16 v17 v18 v19 v20 v21 v22 v23 v24 : Value} (h : C25 w p v0 v1 v2 v3 v4 v5 v6 v7 v8 v9 v10 v11 v12 v13 v14 v15 v16 v17 v18 v19 v20 v21 v22 v23 v24) : C25 w.drew p v0 v1 v2 v3 v4 v5 v6 v7 v8 v9 v10 v11 v12 v13 v14 v15 v16 v17 v18 v19 v20 v21 v22 v23 v24 := h
theorem far9 (w : World) (r : Nat) (v0 v1 v2 v3 v4 v5 v6 v7 v8 : Value) {p : Nat} (h : p ≠ r) : (((((((((w.setCell ⟨r, 0, none⟩ v0).setCell ⟨r, 1, none⟩ v1).setCell ⟨r, 2, none⟩ v2).setCell ⟨r, 3, none⟩ v3).setCell ⟨r, 4, none⟩ v4).setCell ⟨r, 5, none⟩ v5).setCell ⟨r, 6, none⟩ v6).setCell ⟨r, 7, none⟩ v7).setCell ⟨r, 8, none⟩ v8).heap[p]? = w.heap[p]? := by
 have o1 : ∀ (w : World) (j : Nat) (v : Value), (w.setCell ⟨r, j, none⟩ v).heap[p]? = w.heap[p]? := fun w j v => Below.heap_setCell _ _ _ _ (fun e => h e)
 rw [o1, o1, o1, o1, o1, o1, o1, o1, o1]
set_option linter.unusedVariables false in
set_option linter.unusedSimpArgs false in
set_option maxRecDepth 100000 in
set_option maxHeartbeats 4000000 in
theorem drealG_any (N : Nat) (ka la : Int) (sa : ByteArray) (ta : Tr) (aa : Option Addr) (ca : Nat) (kb lb : Int) (sb : ByteArray) (tb : Tr) (ab : Option Addr) (cb : Nat) (no : Bool) (w : World)
  (h1 : TrD N w ta aa ca) (h2 : TrD N w tb ab cb) (s1 : nsize (canon ta) ≤ 4000000) (s2 : nsize (canon tb) ≤ 4000000) :
  Calls Tryz.prog 12 #[.agg (dgA ka la sa ta aa ca kb lb sb tb ab cb no)] w fun e w' => ∃ T q U r, e = .returned (.agg #[.int .i64 ka, .int .i64 la, .string sa, drV (decide (ka = 3)) T q, .int .i64 kb, .int .i64 lb, .string sb, drV (decide (kb = 3)) U r, .bool no]) ∧ TrO (fun b => w.heap.size ≤ b) w' (drTree ka ta) (drV (decide (ka = 3)) T q) ∧ TrO (fun b => w.heap.size ≤ b) w' (drTree kb tb) (drV (decide (kb = 3)) U r) ∧ Below w.heap.size w w' := by
 obtain ⟨W1, hW1⟩ : ∃ W1, w.alloc (.cells (dgA ka la sa ta aa ca kb lb sb tb ab cb no) 31) = W1 := ⟨_, rfl⟩
 have hX := blkOfAlloc hW1
 have hb1 := belowOfAlloc hW1
 obtain ⟨W2, hW2⟩ : ∃ W2, W1.alloc (.cells gdZ 40) = W2 := ⟨_, rfl⟩
 have hY0 := blkOfAlloc hW2
 have hX2 := hX.below (belowOfAlloc hW2) hX.lt
 have hb2 := hb1.trans ((belowOfAlloc hW2).mono hb1.size)
 obtain ⟨p, hp⟩ : ∃ p, W1.heap.size = p := ⟨_, rfl⟩
 have hwp : w.heap.size < p := by rw [← hp]; exact hX.lt
 have hwne : w.heap.size ≠ p := by omega
 rw [hp] at hY0
 have hR1 := fun W' (hb : Below w.heap.size w W') => dreal_any N ka la sa ta aa ca W' (h1.below hb) s1
 have hR2 := fun W' (hb : Below w.heap.size w W') => dreal_any N kb lb sb tb ab cb W' (h2.below hb) s2
 unfold daA at hR1 hR2
 unfold dgA at hX hX2 hW1 ⊢
 have HB := Lib.hid hb2
 have HX := Lib.hid hX2
 have HY := Lib.hid hY0
 have HS := Lib.hid (C25.of hX2)
 have Hwp := Lib.hid (Nat.le_of_lt hwp)
 have Hlo := Lib.hid hb2.size
 clear hX hX2 hY0 hb1 hb2 hwp h1 h2 s1 s2
 obtain ⟨x3, hx3⟩ : ∃ x, decide (ka = 3) = x := ⟨_, rfl⟩
 obtain ⟨y3, hy3⟩ : ∃ x, decide (kb = 3) = x := ⟨_, rfl⟩
 rw [hx3] at hR1 ⊢
 rw [hy3] at hR2 ⊢
 clear hx3 hy3
 cases x3 <;> cases y3
 ·
  unfold drV at hR1 hR2 ⊢
  simp only [if_true, if_false, Bool.false_eq_true] at hR1 hR2 ⊢
  go_enter Tryz.func12, Tryz.ntmps12
  go_upto_region 1 with fail
  go_region_held3 (fun w' => C25 w' w.heap.size (.int .i64 ka) (.int .i64 la) (.string sa) (.int .i64 ta.kind) (.int .u64 (ow ta.set 0)) (.int .u64 (ow ta.set 1)) (.int .u64 (ow ta.set 2)) (.int .u64 (ow ta.set 3)) (.slice aa ta.parts.length ca) (.int .i64 ta.mn) (.int .i64 ta.mx) (.int .i64 ta.num) (.int .i64 kb) (.int .i64 lb) (.string sb) (.int .i64 tb.kind) (.int .u64 (ow tb.set 0)) (.int .u64 (ow tb.set 1)) (.int .u64 (ow tb.set 2)) (.int .u64 (ow tb.set 3)) (.slice ab tb.parts.length cb) (.int .i64 tb.mn) (.int .i64 tb.mx) (.int .i64 tb.num) (.bool no))
   (first | (with_reducible exact C25.drew HS.out) | (with_reducible exact C25.of HX4.out) | (with_reducible exact C25.of HX3.out) | (with_reducible exact C25.far (C25.of HX4.out) (far9 _ _ _ _ _ _ _ _ _ _ _ hwne)))
   (first
    | (go_at_call 27; refine (hR1 _ (by first | exact HB.out | exact HB.out.drew)).mono ?_; clear hR1; rintro e w3 ⟨T8, q8, rfl, htv, b3⟩; have HX3 := Lib.hid (by first | exact HX.out.below b3 HX.out.lt | exact (show Blk W2.drew _ _ _ from HX.out).below b3 HX.out.lt : Blk w3 w.heap.size _ _); have HY3 := Lib.hid (by first | exact HY.out.below b3 HY.out.lt | exact (show Blk W2.drew _ _ _ from HY.out).below b3 HY.out.lt : Blk w3 p _ _); have HB3 := Lib.hid (by first | exact HB.out.trans (b3.mono HB.out.size) | exact HB.out.drew.trans (b3.mono HB.out.drew.size) : Below w.heap.size w w3); have HT3 := Lib.hid htv; clear htv b3)
    | (go_at_call 27; refine (hR2 _ HB3.out).mono ?_; clear hR2; rintro e w4 ⟨T9, q9, rfl, huv, b4⟩; have HX4 := Lib.hid (HX3.out.below b4 HX3.out.lt); have HY4 := Lib.hid (HY3.out.below b4 HY3.out.lt); have HB4 := Lib.hid (HB3.out.trans (b4.mono HB3.out.size)); have HT4 := Lib.hid (HT3.out.below b4); have HU4 := Lib.hid huv; have HL4 := Lib.hid HB3.out.size; clear huv b4; obtain ⟨⟨y0, y1, y2, y3, y4, y5, y6, y7, y8⟩, f0, f1, f2, f3, f4, f5, f6, f7, f8, hyl⟩ := blk9v HY4.out))
  go_wp2_with fail
  with_reducible refine post9v HB4.out HY4.out Hwp.out ?_
  intro w9 hB9 hk9 hs9 hz9
  clear y0 y1 y2 y3 y4 y5 y6 y7 y8 f0 f1 f2 f3 f4 f5 f6 f7 f8 hyl
  obtain ⟨⟨y0, y1, y2, y3, y4, y5, y6, y7, y8⟩, _, _, _, _, _, _, _, _, _, hyl⟩ := blk9v hk9
  refine bodyPost_ret (v := .agg #[.int .i64 ka, .int .i64 la, .string sa, .nilIface, .int .i64 kb, .int .i64 lb, .string sb, .nilIface, .bool no]) (by simp [results, Tryz.results12, go_sem, hp, y0, y1, y2, y3, y4, y5, y6, y7, y8]) rfl ?_
  have hk : ∀ B, p < B → w.heap.size ≤ B → ∀ {t v}, TrO (fun b => B ≤ b) w4 t v → TrO (fun b => w.heap.size ≤ b) w9 t v := fun B h1 h2 _ _ h => TrO.keep (by omega) (fun b hb _ => ⟨by omega, fun o => World.cell?_of_block (w := w4) (a := ⟨b, o, none⟩) (hs9 b (by omega))⟩) h
  exact ⟨T8, q8, T9, q9, rfl, hk W2.heap.size HY.out.lt HB.out.size HT4.out, hk w3.heap.size HY3.out.lt HB3.out.size HU4.out, hB9⟩
 ·
  unfold drV at hR1 hR2 ⊢
  simp only [if_true, if_false, Bool.false_eq_true] at hR1 hR2 ⊢
  go_enter Tryz.func12, Tryz.ntmps12
  go_upto_region 1 with fail
  go_region_held3 (fun w' => C25 w' w.heap.size (.int .i64 ka) (.int .i64 la) (.string sa) (.int .i64 ta.kind) (.int .u64 (ow ta.set 0)) (.int .u64 (ow ta.set 1)) (.int .u64 (ow ta.set 2)) (.int .u64 (ow ta.set 3)) (.slice aa ta.parts.length ca) (.int .i64 ta.mn) (.int .i64 ta.mx) (.int .i64 ta.num) (.int .i64 kb) (.int .i64 lb) (.string sb) (.int .i64 tb.kind) (.int .u64 (ow tb.set 0)) (.int .u64 (ow tb.set 1)) (.int .u64 (ow tb.set 2)) (.int .u64 (ow tb.set 3)) (.slice ab tb.parts.length cb) (.int .i64 tb.mn) (.int .i64 tb.mx) (.int .i64 tb.num) (.bool no))
   (first | (with_reducible exact C25.drew HS.out) | (with_reducible exact C25.of HX4.out) | (with_reducible exact C25.of HX3.out) | (with_reducible exact C25.far (C25.of HX4.out) (far9 _ _ _ _ _ _ _ _ _ _ _ hwne)))
   (first
    | (go_at_call 27; refine (hR1 _ (by first | exact HB.out | exact HB.out.drew)).mono ?_; clear hR1; rintro e w3 ⟨T8, q8, rfl, htv, b3⟩; have HX3 := Lib.hid (by first | exact HX.out.below b3 HX.out.lt | exact (show Blk W2.drew _ _ _ from HX.out).below b3 HX.out.lt : Blk w3 w.heap.size _ _); have HY3 := Lib.hid (by first | exact HY.out.below b3 HY.out.lt | exact (show Blk W2.drew _ _ _ from HY.out).below b3 HY.out.lt : Blk w3 p _ _); have HB3 := Lib.hid (by first | exact HB.out.trans (b3.mono HB.out.size) | exact HB.out.drew.trans (b3.mono HB.out.drew.size) : Below w.heap.size w w3); have HT3 := Lib.hid htv; clear htv b3)
    | (go_at_call 27; refine (hR2 _ HB3.out).mono ?_; clear hR2; rintro e w4 ⟨T9, q9, rfl, huv, b4⟩; have HX4 := Lib.hid (HX3.out.below b4 HX3.out.lt); have HY4 := Lib.hid (HY3.out.below b4 HY3.out.lt); have HB4 := Lib.hid (HB3.out.trans (b4.mono HB3.out.size)); have HT4 := Lib.hid (HT3.out.below b4); have HU4 := Lib.hid huv; have HL4 := Lib.hid HB3.out.size; clear huv b4; obtain ⟨⟨y0, y1, y2, y3, y4, y5, y6, y7, y8⟩, f0, f1, f2, f3, f4, f5, f6, f7, f8, hyl⟩ := blk9v HY4.out))
  go_wp2_with fail
  with_reducible refine post9v HB4.out HY4.out Hwp.out ?_
  intro w9 hB9 hk9 hs9 hz9
  clear y0 y1 y2 y3 y4 y5 y6 y7 y8 f0 f1 f2 f3 f4 f5 f6 f7 f8 hyl
  obtain ⟨⟨y0, y1, y2, y3, y4, y5, y6, y7, y8⟩, _, _, _, _, _, _, _, _, _, hyl⟩ := blk9v hk9
  refine bodyPost_ret (v := .agg #[.int .i64 ka, .int .i64 la, .string sa, .nilIface, .int .i64 kb, .int .i64 lb, .string sb, .iface T9 q9, .bool no]) (by simp [results, Tryz.results12, go_sem, hp, y0, y1, y2, y3, y4, y5, y6, y7, y8]) rfl ?_
  have hk : ∀ B, p < B → w.heap.size ≤ B → ∀ {t v}, TrO (fun b => B ≤ b) w4 t v → TrO (fun b => w.heap.size ≤ b) w9 t v := fun B h1 h2 _ _ h => TrO.keep (by omega) (fun b hb _ => ⟨by omega, fun o => World.cell?_of_block (w := w4) (a := ⟨b, o, none⟩) (hs9 b (by omega))⟩) h
  exact ⟨T8, q8, T9, q9, rfl, hk W2.heap.size HY.out.lt HB.out.size HT4.out, hk w3.heap.size HY3.out.lt HB3.out.size HU4.out, hB9⟩
 ·
  unfold drV at hR1 hR2 ⊢
  simp only [if_true, if_false, Bool.false_eq_true] at hR1 hR2 ⊢
  go_enter Tryz.func12, Tryz.ntmps12
  go_upto_region 1 with fail
  go_region_held3 (fun w' => C25 w' w.heap.size (.int .i64 ka) (.int .i64 la) (.string sa) (.int .i64 ta.kind) (.int .u64 (ow ta.set 0)) (.int .u64 (ow ta.set 1)) (.int .u64 (ow ta.set 2)) (.int .u64 (ow ta.set 3)) (.slice aa ta.parts.length ca) (.int .i64 ta.mn) (.int .i64 ta.mx) (.int .i64 ta.num) (.int .i64 kb) (.int .i64 lb) (.string sb) (.int .i64 tb.kind) (.int .u64 (ow tb.set 0)) (.int .u64 (ow tb.set 1)) (.int .u64 (ow tb.set 2)) (.int .u64 (ow tb.set 3)) (.slice ab tb.parts.length cb) (.int .i64 tb.mn) (.int .i64 tb.mx) (.int .i64 tb.num) (.bool no))
   (first | (with_reducible exact C25.drew HS.out) | (with_reducible exact C25.of HX4.out) | (with_reducible exact C25.of HX3.out) | (with_reducible exact C25.far (C25.of HX4.out) (far9 _ _ _ _ _ _ _ _ _ _ _ hwne)))
   (first
    | (go_at_call 27; refine (hR1 _ (by first | exact HB.out | exact HB.out.drew)).mono ?_; clear hR1; rintro e w3 ⟨T8, q8, rfl, htv, b3⟩; have HX3 := Lib.hid (by first | exact HX.out.below b3 HX.out.lt | exact (show Blk W2.drew _ _ _ from HX.out).below b3 HX.out.lt : Blk w3 w.heap.size _ _); have HY3 := Lib.hid (by first | exact HY.out.below b3 HY.out.lt | exact (show Blk W2.drew _ _ _ from HY.out).below b3 HY.out.lt : Blk w3 p _ _); have HB3 := Lib.hid (by first | exact HB.out.trans (b3.mono HB.out.size) | exact HB.out.drew.trans (b3.mono HB.out.drew.size) : Below w.heap.size w w3); have HT3 := Lib.hid htv; clear htv b3)
    | (go_at_call 27; refine (hR2 _ HB3.out).mono ?_; clear hR2; rintro e w4 ⟨T9, q9, rfl, huv, b4⟩; have HX4 := Lib.hid (HX3.out.below b4 HX3.out.lt); have HY4 := Lib.hid (HY3.out.below b4 HY3.out.lt); have HB4 := Lib.hid (HB3.out.trans (b4.mono HB3.out.size)); have HT4 := Lib.hid (HT3.out.below b4); have HU4 := Lib.hid huv; have HL4 := Lib.hid HB3.out.size; clear huv b4; obtain ⟨⟨y0, y1, y2, y3, y4, y5, y6, y7, y8⟩, f0, f1, f2, f3, f4, f5, f6, f7, f8, hyl⟩ := blk9v HY4.out))
  go_wp2_with fail
  with_reducible refine post9v HB4.out HY4.out Hwp.out ?_
  intro w9 hB9 hk9 hs9 hz9
  clear y0 y1 y2 y3 y4 y5 y6 y7 y8 f0 f1 f2 f3 f4 f5 f6 f7 f8 hyl
  obtain ⟨⟨y0, y1, y2, y3, y4, y5, y6, y7, y8⟩, _, _, _, _, _, _, _, _, _, hyl⟩ := blk9v hk9
  refine bodyPost_ret (v := .agg #[.int .i64 ka, .int .i64 la, .string sa, .iface T8 q8, .int .i64 kb, .int .i64 lb, .string sb, .nilIface, .bool no]) (by simp [results, Tryz.results12, go_sem, hp, y0, y1, y2, y3, y4, y5, y6, y7, y8]) rfl ?_
  have hk : ∀ B, p < B → w.heap.size ≤ B → ∀ {t v}, TrO (fun b => B ≤ b) w4 t v → TrO (fun b => w.heap.size ≤ b) w9 t v := fun B h1 h2 _ _ h => TrO.keep (by omega) (fun b hb _ => ⟨by omega, fun o => World.cell?_of_block (w := w4) (a := ⟨b, o, none⟩) (hs9 b (by omega))⟩) h
  exact ⟨T8, q8, T9, q9, rfl, hk W2.heap.size HY.out.lt HB.out.size HT4.out, hk w3.heap.size HY3.out.lt HB3.out.size HU4.out, hB9⟩
 ·
  unfold drV at hR1 hR2 ⊢
  simp only [if_true, if_false, Bool.false_eq_true] at hR1 hR2 ⊢
  go_enter Tryz.func12, Tryz.ntmps12
  go_upto_region 1 with fail
  go_region_held3 (fun w' => C25 w' w.heap.size (.int .i64 ka) (.int .i64 la) (.string sa) (.int .i64 ta.kind) (.int .u64 (ow ta.set 0)) (.int .u64 (ow ta.set 1)) (.int .u64 (ow ta.set 2)) (.int .u64 (ow ta.set 3)) (.slice aa ta.parts.length ca) (.int .i64 ta.mn) (.int .i64 ta.mx) (.int .i64 ta.num) (.int .i64 kb) (.int .i64 lb) (.string sb) (.int .i64 tb.kind) (.int .u64 (ow tb.set 0)) (.int .u64 (ow tb.set 1)) (.int .u64 (ow tb.set 2)) (.int .u64 (ow tb.set 3)) (.slice ab tb.parts.length cb) (.int .i64 tb.mn) (.int .i64 tb.mx) (.int .i64 tb.num) (.bool no))
   (first | (with_reducible exact C25.drew HS.out) | (with_reducible exact C25.of HX4.out) | (with_reducible exact C25.of HX3.out) | (with_reducible exact C25.far (C25.of HX4.out) (far9 _ _ _ _ _ _ _ _ _ _ _ hwne)))
   (first
    | (go_at_call 27; refine (hR1 _ (by first | exact HB.out | exact HB.out.drew)).mono ?_; clear hR1; rintro e w3 ⟨T8, q8, rfl, htv, b3⟩; have HX3 := Lib.hid (by first | exact HX.out.below b3 HX.out.lt | exact (show Blk W2.drew _ _ _ from HX.out).below b3 HX.out.lt : Blk w3 w.heap.size _ _); have HY3 := Lib.hid (by first | exact HY.out.below b3 HY.out.lt | exact (show Blk W2.drew _ _ _ from HY.out).below b3 HY.out.lt : Blk w3 p _ _); have HB3 := Lib.hid (by first | exact HB.out.trans (b3.mono HB.out.size) | exact HB.out.drew.trans (b3.mono HB.out.drew.size) : Below w.heap.size w w3); have HT3 := Lib.hid htv; clear htv b3)
    | (go_at_call 27; refine (hR2 _ HB3.out).mono ?_; clear hR2; rintro e w4 ⟨T9, q9, rfl, huv, b4⟩; have HX4 := Lib.hid (HX3.out.below b4 HX3.out.lt); have HY4 := Lib.hid (HY3.out.below b4 HY3.out.lt); have HB4 := Lib.hid (HB3.out.trans (b4.mono HB3.out.size)); have HT4 := Lib.hid (HT3.out.below b4); have HU4 := Lib.hid huv; have HL4 := Lib.hid HB3.out.size; clear huv b4; obtain ⟨⟨y0, y1, y2, y3, y4, y5, y6, y7, y8⟩, f0, f1, f2, f3, f4, f5, f6, f7, f8, hyl⟩ := blk9v HY4.out))
  go_wp2_with fail
  with_reducible refine post9v HB4.out HY4.out Hwp.out ?_
  intro w9 hB9 hk9 hs9 hz9
  clear y0 y1 y2 y3 y4 y5 y6 y7 y8 f0 f1 f2 f3 f4 f5 f6 f7 f8 hyl
  obtain ⟨⟨y0, y1, y2, y3, y4, y5, y6, y7, y8⟩, _, _, _, _, _, _, _, _, _, hyl⟩ := blk9v hk9
  refine bodyPost_ret (v := .agg #[.int .i64 ka, .int .i64 la, .string sa, .iface T8 q8, .int .i64 kb, .int .i64 lb, .string sb, .iface T9 q9, .bool no]) (by simp [results, Tryz.results12, go_sem, hp, y0, y1, y2, y3, y4, y5, y6, y7, y8]) rfl ?_
  have hk : ∀ B, p < B → w.heap.size ≤ B → ∀ {t v}, TrO (fun b => B ≤ b) w4 t v → TrO (fun b => w.heap.size ≤ b) w9 t v := fun B h1 h2 _ _ h => TrO.keep (by omega) (fun b hb _ => ⟨by omega, fun o => World.cell?_of_block (w := w4) (a := ⟨b, o, none⟩) (hs9 b (by omega))⟩) h
  exact ⟨T8, q8, T9, q9, rfl, hk W2.heap.size HY.out.lt HB.out.size HT4.out, hk w3.heap.size HY3.out.lt HB3.out.size HU4.out, hB9⟩
end Go.Proofs.YtjbnogjkgmkagaaGreatDoor
namespace Go.Proofs.YtjbnogjkgmkagaaGreatDoor
open Go Go.RowKit
theorem drV_one (b : Bool) (T : TypeId) (q : Value) : (drV b T q).cells = #[drV b T q] ∧ (drV b T q).oneCell' = true := by cases b <;> exact ⟨rfl, rfl⟩
abbrev agC (ka la : Int) (sa : ByteArray) (va : Value) (kb lb : Int) (sb : ByteArray) (vb : Value) (no : Bool) : Array Value := #[.int .i64 ka, .int .i64 la, .string sa, va, .int .i64 kb, .int .i64 lb, .string sb, vb, .bool no]
theorem drealG_v (N : Nat) (ka la : Int) (sa : ByteArray) (ta : Tr) (aa : Option Addr) (ca : Nat) (kb lb : Int) (sb : ByteArray) (tb : Tr) (ab : Option Addr) (cb : Nat) (no : Bool) (w : World)
  (h1 : TrD N w ta aa ca) (h2 : TrD N w tb ab cb) (s1 : nsize (canon ta) ≤ 4000000) (s2 : nsize (canon tb) ≤ 4000000) :
  Calls Tryz.prog 12 #[.agg (dgA ka la sa ta aa ca kb lb sb tb ab cb no)] w fun e w' => ∃ va vb, e = .returned (.agg (agC ka la sa va kb lb sb vb no)) ∧ (va.cells = #[va] ∧ va.oneCell' = true) ∧ (vb.cells = #[vb] ∧ vb.oneCell' = true) ∧ TrO (fun b => w.heap.size ≤ b) w' (drTree ka ta) va ∧ TrO (fun b => w.heap.size ≤ b) w' (drTree kb tb) vb ∧ Below w.heap.size w w' := by
 refine (drealG_any N ka la sa ta aa ca kb lb sb tb ab cb no w h1 h2 s1 s2).mono ?_
 rintro e w' ⟨T, q, U, r, rfl, k1, k2, hb⟩
 exact ⟨_, _, rfl, drV_one _ _ _, drV_one _ _ _, k1, k2, hb⟩
structure S4 (W2 : World) (R : List Nat) (T : List (Option Nd × Value)) (W : World) : Prop where
 b : Below W2.heap.size W2 W
 r : ∀ r ∈ R, W2.heap.size ≤ r ∧ Blk W r gdZ 40
 n : R.Nodup
 t : ∀ x ∈ T, TrO (fun b => b ∉ R) W x.1 x.2
theorem S4.start (W2 : World) : S4 W2 [] [] W2 := ⟨Below.refl _ _, fun _ h => absurd h List.not_mem_nil, List.nodup_nil, fun _ h => absurd h List.not_mem_nil⟩
theorem S4.call {W2 : World} {R : List Nat} {T : List (Option Nd × Value)} {W W' : World} (h : S4 W2 R T W) (hb : Below W.heap.size W W') {t u : Option Nd} {va vb : Value} (h1 : TrO (fun b => W.heap.size ≤ b) W' t va) (h2 : TrO (fun b => W.heap.size ≤ b) W' u vb) : S4 W2 R ((t, va) :: (u, vb) :: T) W' := by
 have hR : ∀ b, W.heap.size ≤ b → b ∉ R := fun b hl hm => by have := (h.r b hm).2.lt; omega
 refine ⟨h.b.trans (hb.mono h.b.size), fun r hr => ⟨(h.r r hr).1, (h.r r hr).2.below hb (h.r r hr).2.lt⟩, h.n, fun x hx => ?_⟩
 rcases List.mem_cons.1 hx with rfl | hx
 ·exact TrO.keep (Nat.le_refl _) (fun b k _ => ⟨hR b k, fun _ => rfl⟩) h1
 ·rcases List.mem_cons.1 hx with rfl | hx
  ·exact TrO.keep (Nat.le_refl _) (fun b k _ => ⟨hR b k, fun _ => rfl⟩) h2
  ·exact (h.t x hx).below hb
theorem S4.drew {W2 : World} {R : List Nat} {T : List (Option Nd × Value)} {W : World} (h : S4 W2 R T W) : S4 W2 R T W.drew :=
 ⟨h.b.drew, fun r hr => ⟨(h.r r hr).1, (h.r r hr).2⟩, h.n, fun x hx => (h.t x hx).below (Below.refl _ _).drew⟩
theorem S4.alloc {W2 : World} {R : List Nat} {T : List (Option Nd × Value)} {W : World} (h : S4 W2 R T W) : S4 W2 (W.heap.size :: R) T (W.alloc (.cells #[.int .i64 0, .int .i64 0, .string ⟨#[]⟩, .nilIface, .int .i64 0, .int .i64 0, .string ⟨#[]⟩, .nilIface, .bool false] 40)) := by
 have hb := belowOfAlloc (w := W) (o := .cells gdZ 40) rfl
 refine ⟨h.b.trans (hb.mono h.b.size), fun r hr => ?_, List.nodup_cons.2 ⟨fun hm => by have := (h.r _ hm).2.lt; omega, h.n⟩, fun x hx => ?_⟩
 ·rcases List.mem_cons.1 hr with rfl | hr
  ·exact ⟨h.b.size, blkOfAlloc rfl⟩
  ·exact ⟨(h.r r hr).1, (h.r r hr).2.below hb (h.r r hr).2.lt⟩
 ·refine TrO.keep hb.size (fun b k hl => ⟨fun hm => ?_, fun o => hb.cell (p := ⟨b, o, none⟩) hl⟩) (h.t x hx)
  rcases List.mem_cons.1 hm with rfl | hm
  ·omega
  ·exact k hm
structure SmH (w : World) (p q : Nat) (vx vy : Array Value) (W : World) : Prop where
 b : Below w.heap.size w W
 x : Blk W p vx 31
 y : Blk W q vy 31
theorem SmH.step {w : World} {p q : Nat} {vx vy : Array Value} {W W' : World} (h : SmH w p q vx vy W) (hb : Below W.heap.size W W') : SmH w p q vx vy W' := ⟨h.b.trans (hb.mono h.b.size), h.x.below hb h.x.lt, h.y.below hb h.y.lt⟩
structure Sm2 (p q : Nat) (vx vy : Array Value) (W : World) : Prop where
 x : Blk W p vx 31
 y : Blk W q vy 31
theorem run_load_blk {P : Program} {op : Oper} {a : Act} {W : World} (ty : TypeId) (x : Operand) (ho : op.op = .load ty x) (g : Nat) (hx : a.eval x = .pointer (some ⟨g, 0, none⟩)) {cs : Array Value} {T : TypeId} (h : Blk W g cs T) {fs : _} (hu : P.underlying ty = some (.struct fs)) (hi : (P.info? ty).map (·.size) = some cs.size) :
  Sem.run P (execOp a.eval op) W = .ok (.value (.agg cs)) W := by
 unfold execOp
 simp only [ho, hx, Instr.loadAt, Instr.sureAddr, Sem.run_bind, Sem.run_pure, Result.andThen_ok, run_loadVar_row W g _ ty cs _ (.struct fs) h hu rfl hi]
theorem run_load_sub {P : Program} {op : Oper} {a : Act} {W : World} (ty : TypeId) (x : Operand) (ho : op.op = .load ty x) (g o n : Nat) (hx : a.eval x = .pointer (some ⟨g, o, none⟩)) {cs : Array Value} {T : TypeId} (h : Blk W g cs T) {fs : _} (hu : P.underlying ty = some (.struct fs)) (hi : (P.info? ty).map (·.size) = some ((cs.toList.drop o).take n).length) :
  Sem.run P (execOp a.eval op) W = .ok (.value (.agg ((cs.toList.drop o).take n).toArray)) W := by
 have hc : W.rangeAt g o ((cs.toList.drop o).take n) := fun j v hj => by
  rw [List.getElem?_take] at hj
  split at hj
  ·rw [List.getElem?_drop] at hj
   rw [h.cell (o + j), ← Array.getElem?_toList]
   exact hj
  ·cases hj
 unfold execOp
 simp only [ho, hx, Instr.loadAt, Instr.sureAddr, Sem.run_bind, Sem.run_pure, Result.andThen_ok, run_loadVar_mid W g o ty _ (.struct fs) hc hu rfl hi]
theorem same_dd (k k' : Nat) (t u : Tr) (R : Bool) : adSameI ⟨k, 0, [], drTree k t⟩ ⟨k', 0, [], drTree k' u⟩ R = ddSame k k' R (nsame (canon t) (canon u)) := by
 unfold adSameI ddSame drTree
 have e1 : ((k : Int) = (k' : Int)) ↔ k = k' := by omega
 have e2 : ((k : Int) = 1 ∨ (k : Int) = 4) ↔ (k = 1 ∨ k = 4) := by omega
 have e3 : ((k : Int) = 3) ↔ k = 3 := by omega
 have e4 : ((k' : Int) = 3) ↔ k' = 3 := by omega
 simp only [e1, e2, e3, e4]
 by_cases h : k = k'
 ·subst h
  by_cases h3 : k = 3
  ·subst h3; simp
  ·by_cases h1 : k = 1 ∨ k = 4
   ·simp [h1]
   ·simp [h1, h3]
 ·simp [h]
theorem same_self (k : Nat) (t : Tr) : adSameI ⟨k, 0, [], drTree k t⟩ ⟨k, 0, [], drTree k t⟩ true = true := by
 rw [same_dd]
 unfold ddSame
 rw [if_pos rfl, nsame_refl]
 split
 ·rfl
 ·split <;> rfl
theorem fine_dd (k : Nat) (t : Tr) (h : nsize (canon t) ≤ 4000000) : AdFine ⟨k, 0, [], drTree k t⟩ := fun h3 => ⟨canon t, by
 have h3' : k = 3 := h3
 show drTree k t = _
 unfold drTree
 rw [if_pos (by omega)], h⟩
structure S5 (W2 : World) (x y : Nat) (cx cy : Array Value) (T : List (Option Nd × Value)) (W : World) : Prop where
 b : Below W2.heap.size W2 W
 qx : Blk W x cx 40
 qy : Blk W y cy 40
 lx : W2.heap.size ≤ x
 ly : W2.heap.size ≤ y
 t : ∀ z ∈ T, TrO (fun b => b ≠ x ∧ b ≠ y) W z.1 z.2
theorem ag_one (ka la : Int) (sa : ByteArray) (va : Value) (kb lb : Int) (sb : ByteArray) (vb : Value) (no : Bool) (h1 : va.oneCell' = true) (h2 : vb.oneCell' = true) : (#[.int .i64 ka, .int .i64 la, .string sa, va, .int .i64 kb, .int .i64 lb, .string sb, vb, .bool no] : Array Value).all (·.oneCell') = true := by
 simp only [List.all_toArray, List.all_cons, List.all_nil, h1, h2]
 rfl
theorem S4.fin {W2 : World} {R : List Nat} {T : List (Option Nd × Value)} {W : World} (h : S4 W2 R T W) {x y : Nat} (hx : x ∈ R) (hy : y ∈ R) (hn : x ≠ y) (cx cy : Array Value) : S5 W2 x y cx cy T ((W.setRow x cx).setRow y cy) := by
 have p1 := setRow_heap W x _ cx _ _ (h.r x hx).2
 have hy1 : Blk (W.setRow x cx) y gdZ 40 := (setRow_other W x y cx (fun e => hn e.symm)).trans (h.r y hy).2
 have q1 := setRow_heap (W.setRow x cx) y _ cy _ _ hy1
 refine ⟨below_setRow (below_setRow h.b (h.r x hx).1 _) (h.r y hy).1 _, (setRow_other _ y x cy hn).trans p1, q1, (h.r x hx).1, (h.r y hy).1, fun z hz => ?_⟩
 refine TrO.keep (by simp) (fun b k hl => ?_) (h.t z hz)
 have e1 : b ≠ x := fun e => k (e ▸ hx)
 have e2 : b ≠ y := fun e => k (e ▸ hy)
 exact ⟨⟨e1, e2⟩, fun o => World.cell?_of_block (w := W) (a := ⟨b, o, none⟩) ((setRow_other _ y b cy e2).trans (setRow_other W x b cx e1))⟩
end Go.Proofs.YtjbnogjkgmkagaaGreatDoor
namespace Go.Proofs.YtjbnogjkgmkagaaGreatDoor
open Go Go.RowKit
def gdExB (r : AdRd Grd) : Bool := match r with
 | .ok q => q.1.no && (q.1.a.kind == 1 && (q.1.a.line == 2 && (q.1.b.kind == 3 && (q.2.1.isEmpty && q.2.2 == 6))))
 | .error _ => false
theorem gd_ex : gdExB (gdM false [50, 44, 47, 120, 47, 33, 112] 0) = true := by decide +kernel
theorem gd_ex2 : ∃ a b, gdM false [50, 44, 47, 120, 47, 33, 112] 0 = .ok (⟨a, b, true⟩, [], 6) ∧ a.kind = 1 ∧ a.line = 2 ∧ b.kind = 3 := by
 have h := gd_ex
 generalize gdM false [50, 44, 47, 120, 47, 33, 112] 0 = R at h
 cases R with
 | error q => cases h
 | ok q =>
  obtain ⟨⟨a, b, no⟩, ms, p⟩ := q
  simp only [gdExB, Bool.and_eq_true, beq_iff_eq, List.isEmpty_iff] at h
  obtain ⟨h1, h2, h3, h4, h5, h6⟩ := h
  subst h1 h5 h6
  exact ⟨a, b, rfl, h2, h3, h4⟩
theorem pguard_0 (ext : Bool) (s : ByteArray) (w : World) (hs : s.size ≤ 4000000) (hG : Gl w) (hP : GP w) :
  Calls Tryz.prog 25 #[.string s, .int .i64 0, .bool ext] w fun e w' => GdA w (gdM ext s.data.toList 0) e w' := pguard_at ext s 0 w hs (Nat.zero_le _) hG hP
set_option linter.unusedVariables false in
set_option linter.unusedSimpArgs false in
set_option maxRecDepth 100000 in
set_option maxHeartbeats 4000000 in
theorem awake12_any (w : World) (hG : Gl w) (hP : GP w) : Calls Tryz.prog 10 #[] w fun e w' => e = .returned (.bool true) ∧ Below w.heap.size w w' := by
 have hC := pguard_0 false ⟨#[50, 44, 47, 120, 47, 33, 112]⟩ w (by decide) hG hP
 rw [show (⟨#[50, 44, 47, 120, 47, 33, 112]⟩ : ByteArray).data.toList = [50, 44, 47, 120, 47, 33, 112] from rfl] at hC
 obtain ⟨a, b, he, h1, h2, h3⟩ := gd_ex2
 rw [he] at hC
 simp only [GdA, h1, h2, h3] at hC
 clear he h1 h2 h3 hG hP
 go_enter Tryz.func10, Tryz.ntmps10
 go_upto_region 2 with (go_at_call 25; refine hC.mono ?_; clear hC; rintro e w1 ⟨b1, ta, tb, ma, mc, rfl, hta, htb, _⟩; have hsa := hta.shape; have hsb := htb.shape; clear hta htb; rcases hsa with ⟨T8, q8, rfl⟩ | rfl <;> rcases hsb with ⟨T9, q9, rfl⟩ | rfl)
 all_goals
  generalize hW2 : w1.alloc _ = w2
  have hb2 := b1.trans ((belowOfAlloc hW2).mono b1.size)
  obtain ⟨⟨x0, x1, x2, x3, x4, x5, x6, x7, x8⟩, _, _, _, _, _, _, _, _, _, hxl⟩ := blk9v (blkOfAlloc hW2)
  clear hW2 b1
  go_wp2_with fail
  go_ret
  exact ⟨rfl, hb2⟩
end Go.Proofs.YtjbnogjkgmkagaaGreatDoor
