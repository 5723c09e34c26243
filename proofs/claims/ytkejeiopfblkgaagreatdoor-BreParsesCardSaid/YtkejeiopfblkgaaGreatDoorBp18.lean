/- The proof's texts RfQF: what the claim reaches of them. -/
import Derived.Test.YtkejeiopfblkgaaGreatDoorBp14
namespace Go.Proofs.YtkejeiopfblkgaaGreatDoor
open Go Go.RowKit
set_option linter.unusedSimpArgs false in
set_option maxRecDepth 100000 in
set_option maxHeartbeats 40000000 in
theorem rrepeated_f (hMk : RMarkOk) {F FT : Nat → Prop} {s : ByteArray} {st : ReSt} {d : Nd} {cv mv : Value} {a : Option Addr} {cap : Nat} (w : World) (hR : RfR F w s st cv mv) (hT : TrX FT w (unc d) a cap) (hd : inCat d = true) :
  Calls Tryz.prog 79 #[.agg (rfC s false st.pos st.opened cv mv 0 0), (.agg (tC (unc d) a cap))] w (RfAns F FT inCat false s (repM false s.data.toList (s.data.toList.length + 1) st d) w) := by
 obtain ⟨R, hR0⟩ : ∃ R, R = repM false s.data.toList (s.data.toList.length + 1) st d := ⟨_, rfl⟩
 rw [← hR0]
 have hsl : s.data.toList.length = s.size := by simp
 have hm0 : s.size < s.data.toList.length + 1 + st.pos := by omega
 obtain ⟨ca, cl, cc, rfl⟩ := hR.c.form
 obtain ⟨ma, ml, mc, rfl⟩ := hR.m.form
 have h0 : RpL F FT w s false ((((w.alloc (.cells (rfC s false st.pos st.opened (.slice ca cl cc) (.slice ma ml mc) 0 0) 87)).alloc (.cells (tC (unc d) a cap) 36)).alloc (.cells rfZ 87)).alloc (.cells zC 36)) st d (.slice ca cl cc) (.slice ma ml mc) a cap := by
  have hB := ((((Below.refl w.heap.size w).alloc (Nat.le_refl _) (.cells (rfC s false st.pos st.opened (.slice ca cl cc) (.slice ma ml mc) 0 0) 87)).alloc (by simp) (.cells (tC (unc d) a cap) 36)).alloc (by simp; omega) (.cells rfZ 87)).alloc (by simp; omega) (.cells zC 36)
  exact ⟨hB, (((Blk.new w _ _ _ rfl).alloc _).alloc _).alloc _, ((Blk.new _ _ _ _ (by simp)).alloc _).alloc _, (Blk.new _ _ _ _ (by simp)).alloc _, Blk.new _ _ _ _ (by simp),
   hR.keep hB.size (fun b hf hlt => ⟨.inl ⟨hf, hlt⟩, fun o => hB.cell (p := ⟨b, o, none⟩) hlt⟩), hT.keep hB.size (fun b hf hlt => ⟨.inl ⟨hf, hlt⟩, fun o => hB.cell (p := ⟨b, o, none⟩) hlt⟩)⟩
 have H0 := Lib.hid h0
 have HR0 := Lib.hid hR0
 have HM := Lib.hid hm0
 have HD := Lib.hid hd
 have HMk := Lib.hid hMk
 clear hR hT h0 hR0 hm0 hsl hd
 go_enter Tryz.func79, Tryz.ntmps79
 go_upto_region 1 with fail
 have HL := Lib.hid H0.out
 generalize ((((w.alloc (.cells (rfC s false st.pos st.opened (.slice ca cl cc) (.slice ma ml mc) 0 0) 87)).alloc (.cells (tC (unc d) a cap) 36)).alloc (.cells rfZ 87)).alloc (.cells zC 36)) = w1 at *
 go_loopw [] (fun wr => ∃ (m : Nat) (st' : ReSt) (d' : Nd) (cv' mv' : Value) (a' : Option Addr) (cap' : Nat), R = repM false s.data.toList m st' d' ∧ s.size < m + st'.pos ∧ inCat d' = true ∧ RpL F FT w s false wr st' d' cv' mv' a' cap') (fun wr => s.size - (intOf ((wr.cell? ⟨w.heap.size, 2, none⟩).getD undef)).toNat)
 case atStart => exact ⟨_, _, _, _, _, _, _, HR0.out, HM.out, HD.out, HL.out⟩
 case round =>
  obtain ⟨m, st', d', cv', mv', a', cap', hRm, hm, hk, hL⟩ := hrel
  have hpos := hL.r.pos
  have hsm := hL.r.small
  have HL1 := Lib.hid hL
  have HM' := Lib.hid hm
  have HK' := Lib.hid hk
  obtain ⟨c0, c1, c2, c3, c4, c5, c6, c7, f0, f1, f2, f3, f4, f5, f6, f7, hl⟩ := blk8 HL1.out.k2
  clear hL hm hk
  obtain ⟨m0, rfl⟩ : ∃ m0, m = m0 + 1 := ⟨m - 1, by have := HM'.out; omega⟩
  have HSg := Lib.hid (fun (cv mv : Value) w => rsign_any s false st'.pos st'.opened cv mv 0 0 st'.pos w (by omega))
  have HOp := Lib.hid (fun (op : Nat) (cv mv : Value) b w => rop_f s st'.pos op cv mv 0 0 b w)
  have HPS := Lib.hid (show st'.pos ≤ s.size ∧ s.size ≤ 250 from ⟨hpos, hsm⟩)
  rw [repM] at hRm
  obtain ⟨ca', cl', cc', rfl⟩ := HL1.out.r.c.form
  obtain ⟨ma', ml', mc', rfl⟩ := HL1.out.r.m.form
  have hMv := rep_mv false s.data.toList st'.pos
  rw [show s.data.toList.length = s.size by simp] at hMv
  have HMv := Lib.hid hMv
  clear hMv
  go_wp2_with fail
  refine (HSg.out _ _ _).mono ?_
  rintro e w2 ⟨t, rfl, ht, b2⟩
  have HL2 := Lib.hid (HL1.out.step b2)
  clear b2
  clear c0 c1 c2 c3 c4 c5 c6 c7 f0 f1 f2 f3 f4 f5 f6 f7 hl
  obtain ⟨c0, c1, c2, c3, c4, c5, c6, c7, f0, f1, f2, f3, f4, f5, f6, f7, hl⟩ := blk8 HL2.out.k2
  cases hrp : repAt false s.data.toList st'.pos with
  | none =>
   rw [hrp] at hRm
   have HRm := Lib.hid hRm
   obtain ⟨hn42, hn43, hn63, hn123⟩ := rep_none_at false s.data.toList st'.pos hrp
   obtain ⟨n1, n1'⟩ := sgn_no_ch ht 42 (by decide) hn42
   obtain ⟨n2, n2'⟩ := sgn_no_es ht 43 hn43
   obtain ⟨n3, n3'⟩ := sgn_no_es ht 63 hn63
   obtain ⟨n4, n4'⟩ := sgn_no_es ht 123 hn123
   have HT := Lib.hid ht
   clear ht hRm hrp hn42 hn43 hn63 hn123
   go_wp2_with fail
   go_quiet (fail)
   have HLq := Lib.hid (HL2.out.step (below_drewN (Below.refl _ _) nq))
   generalize w2.drewN nq = wq at *
   clear c0 c1 c2 c3 c4 c5 c6 c7 f0 f1 f2 f3 f4 f5 f6 f7 hl
   obtain ⟨c0, c1, c2, c3, c4, c5, c6, c7, f0, f1, f2, f3, f4, f5, f6, f7, hl⟩ := blk8 HLq.out.k2
   go_wp2_with fail
   refine (HOp.out _ _ _ _ _).mono ?_
   rintro e w3 ⟨rfl, b3⟩
   have HL3 := Lib.hid (HLq.out.step b3)
   clear b3
   clear c0 c1 c2 c3 c4 c5 c6 c7 f0 f1 f2 f3 f4 f5 f6 f7 hl
   obtain ⟨c0, c1, c2, c3, c4, c5, c6, c7, f0, f1, f2, f3, f4, f5, f6, f7, hl⟩ := blk8 HL3.out.k2
   go_wp2_with fail
   refine (HOp.out _ _ _ _ _).mono ?_
   rintro e w4 ⟨rfl, b4⟩
   have HL4 := Lib.hid (HL3.out.step b4)
   clear b4
   clear c0 c1 c2 c3 c4 c5 c6 c7 f0 f1 f2 f3 f4 f5 f6 f7 hl
   obtain ⟨c0, c1, c2, c3, c4, c5, c6, c7, f0, f1, f2, f3, f4, f5, f6, f7, hl⟩ := blk8 HL4.out.k2
   go_wp2_with fail
   refine (HOp.out _ _ _ _ _).mono ?_
   rintro e w5 ⟨rfl, b5⟩
   have HL5 := Lib.hid (HL4.out.step b5)
   clear b5
   clear c0 c1 c2 c3 c4 c5 c6 c7 f0 f1 f2 f3 f4 f5 f6 f7 hl
   obtain ⟨c0, c1, c2, c3, c4, c5, c6, c7, f0, f1, f2, f3, f4, f5, f6, f7, hl⟩ := blk8 HL5.out.k2
   go_wp2_with fail
   have HLz := HL5
   have hn1 : w.heap.size ≠ w.heap.size + 1 + 1 := by omega
   have hn2 : w.heap.size + 1 ≠ w.heap.size + 1 + 1 := by omega
   have hn3 : w.heap.size ≠ w.heap.size + 1 + 1 + 1 := by omega
   have hn4 : w.heap.size + 1 ≠ w.heap.size + 1 + 1 + 1 := by omega
   have HSS := Lib.hid (C17.of HL5.out.k2 HL5.out.k3)
   obtain ⟨x0, x1, x2, x3, x4, x5, x6, x7, y0, y1, y2, y3, y4, y5, y6, y7, hx⟩ := blk8 HL5.out.k4; obtain ⟨z0, z1, z2, z3, z4, z5, z6, z7, z8, v0, v1, v2, v3, v4, v5, v6, v7, v8, hz⟩ := blk9n HL5.out.k5
   go_wp2_with fail
   clear c0 c1 c2 c3 c4 c5 c6 c7 f0 f1 f2 f3 f4 f5 f6 f7 hl
   go_region_held3 (fun w' => C17 w' w.heap.size (w.heap.size + 1) (.string s) (.bool false) (.int .i64 (st'.pos : Int)) (.int .i64 (st'.opened : Int)) (.slice ca' cl' cc') (.slice ma' ml' mc') (.int .i64 0) (.int .i64 0) (.int .i64 (unc d').kind) (.int .u64 (ow (unc d').set 0)) (.int .u64 (ow (unc d').set 1)) (.int .u64 (ow (unc d').set 2)) (.int .u64 (ow (unc d').set 3)) (.slice a' (unc d').parts.length cap') (.int .i64 (unc d').mn) (.int .i64 (unc d').mx) (.int .i64 (unc d').num))
    (first | (with_reducible exact C17.drew HSS.out) | (with_reducible exact C17.drew (C17.put8 HSS.out hn1 hn2)) | (with_reducible exact C17.drew (C17.put9 (C17.put8 HSS.out hn1 hn2) hn3 hn4)) | (with_reducible exact C17.put8 (by assumption) hn1 hn2) | (with_reducible exact C17.put9 (by assumption) hn3 hn4))
    (fail)
   all_goals
    go_wp2_with fail
    first
     | (with_reducible refine post17 HLz.out.b HLz.out.k4 HLz.out.k5 ?_ ?_ ?_ ?_)
     | (with_reducible refine post17d HLz.out.b HLz.out.k4 HLz.out.k5 ?_ ?_ ?_ rfl ?_)
    ·omega
    ·omega
    ·omega
    intro w9 hB9 hk9 hj9 hs9 hz9
    have HA := Lib.hid (HLz.out.done (C := inCat) HRm.out hB9 hs9 hz9)
    clear x0 x1 x2 x3 x4 x5 x6 x7 y0 y1 y2 y3 y4 y5 y6 y7 hx z0 z1 z2 z3 z4 z5 z6 z7 z8 v0 v1 v2 v3 v4 v5 v6 v7 v8 hz
    obtain ⟨x0, x1, x2, x3, x4, x5, x6, x7, _⟩ := blk8 hk9
    obtain ⟨z0, z1, z2, z3, z4, z5, z6, z7, z8, _⟩ := blk9n hj9
    refine bodyPost_ret (v := .tuple #[.agg (rfC s false st'.pos st'.opened (.slice ca' cl' cc') (.slice ma' ml' mc') 0 0), .agg (tC (unc d') a' cap')]) (by simp [results, Tryz.results79, go_sem, x0, x1, x2, x3, x4, x5, x6, x7, z0, z1, z2, z3, z4, z5, z6, z7, z8]) rfl ?_
    first | exact HA.out | exact HA.out.drew
  | bad =>
   rw [hrp] at hRm
   have HRm := Lib.hid hRm
   obtain ⟨hp, hi⟩ := rep_bad_at false s.data.toList st'.pos hrp
   have e1 := (sgn_es ht 123).2 hp
   have hts : t.size = 2 := by
    rw [← ByteArray.size_data, ← Array.length_toList, ← ByteArray.toList_eq, e1]
    rfl
   have Wn : IntKind.i64.wrap ((st'.pos : Int) + (t.size : Int)) = ((st'.pos + 2 : Nat) : Int) := by rw [hts, IntWalk.i64_in _ (by omega)]; omega
   obtain ⟨nx0, hnx0⟩ : ∃ nx0, nx0 = st'.pos + 2 := ⟨_, rfl⟩
   rw [← hnx0] at Wn
   have HN0 := Lib.hid hnx0
   have HT := Lib.hid ht
   clear hts ht hnx0
   have HIv := Lib.hid (fun w => rinterval_any s false st'.pos st'.opened (.slice ca' cl' cc') (.slice ma' ml' mc') 0 0 nx0 w HPS.out.2 (by have := HPS.out; have := HN0.out; omega) ⟨_, _, _, rfl⟩ ⟨_, _, _, rfl⟩)
   have HIv2 := HIv.out
   rw [show intv false s.data.toList nx0 = none from (by rw [HN0.out]; exact hi)] at HIv2
   unfold rivAns at HIv2
   simp only at HIv2
   have HIw := Lib.hid HIv2
   clear HIv2 HIv hi hp hRm hrp
   have HFl := Lib.hid (fun w => rfail_any s false st'.pos st'.opened (.slice ca' cl' cc') (.slice ma' ml' mc') 7 (st'.pos : Int) w ⟨_, _, _, rfl⟩ ⟨_, _, _, rfl⟩)
   go_wp2_with fail
   go_quiet (fail)
   have HLq := Lib.hid (HL2.out.step (below_drewN (Below.refl _ _) nq))
   generalize w2.drewN nq = wq at *
   clear c0 c1 c2 c3 c4 c5 c6 c7 f0 f1 f2 f3 f4 f5 f6 f7 hl
   obtain ⟨c0, c1, c2, c3, c4, c5, c6, c7, f0, f1, f2, f3, f4, f5, f6, f7, hl⟩ := blk8 HLq.out.k2
   go_wp2_with fail
   refine (HOp.out _ _ _ _ _).mono ?_
   rintro e w3 ⟨rfl, b3⟩
   have HL3 := Lib.hid (HLq.out.step b3)
   clear b3
   clear c0 c1 c2 c3 c4 c5 c6 c7 f0 f1 f2 f3 f4 f5 f6 f7 hl
   obtain ⟨c0, c1, c2, c3, c4, c5, c6, c7, f0, f1, f2, f3, f4, f5, f6, f7, hl⟩ := blk8 HL3.out.k2
   go_wp2_with fail
   refine (HOp.out _ _ _ _ _).mono ?_
   rintro e w4 ⟨rfl, b4⟩
   have HL4 := Lib.hid (HL3.out.step b4)
   clear b4
   clear c0 c1 c2 c3 c4 c5 c6 c7 f0 f1 f2 f3 f4 f5 f6 f7 hl
   obtain ⟨c0, c1, c2, c3, c4, c5, c6, c7, f0, f1, f2, f3, f4, f5, f6, f7, hl⟩ := blk8 HL4.out.k2
   go_wp2_with fail
   refine (HOp.out _ _ _ _ _).mono ?_
   rintro e w5 ⟨rfl, b5⟩
   have HL5 := Lib.hid (HL4.out.step b5)
   clear b5
   clear c0 c1 c2 c3 c4 c5 c6 c7 f0 f1 f2 f3 f4 f5 f6 f7 hl
   obtain ⟨c0, c1, c2, c3, c4, c5, c6, c7, f0, f1, f2, f3, f4, f5, f6, f7, hl⟩ := blk8 HL5.out.k2
   go_wp2_with fail
   refine (HIw.out _).mono ?_
   rintro e w6 ⟨rfl, b6⟩
   have HL6 := Lib.hid (HL5.out.step b6)
   clear b6
   clear c0 c1 c2 c3 c4 c5 c6 c7 f0 f1 f2 f3 f4 f5 f6 f7 hl
   obtain ⟨c0, c1, c2, c3, c4, c5, c6, c7, f0, f1, f2, f3, f4, f5, f6, f7, hl⟩ := blk8 HL6.out.k2
   have hn1 : w.heap.size ≠ w.heap.size + 1 + 1 := by omega
   have hn2 : w.heap.size + 1 ≠ w.heap.size + 1 + 1 := by omega
   have hn3 : w.heap.size ≠ w.heap.size + 1 + 1 + 1 := by omega
   have hn4 : w.heap.size + 1 ≠ w.heap.size + 1 + 1 + 1 := by omega
   have HSS := Lib.hid (C17.of HL6.out.k2 HL6.out.k3)
   go_wp2_with fail
   clear c0 c1 c2 c3 c4 c5 c6 c7 f0 f1 f2 f3 f4 f5 f6 f7 hl
   go_region_held3 (fun w' => C17 w' w.heap.size (w.heap.size + 1) (.string s) (.bool false) (.int .i64 (st'.pos : Int)) (.int .i64 (st'.opened : Int)) (.slice ca' cl' cc') (.slice ma' ml' mc') (.int .i64 0) (.int .i64 0) (.int .i64 (unc d').kind) (.int .u64 (ow (unc d').set 0)) (.int .u64 (ow (unc d').set 1)) (.int .u64 (ow (unc d').set 2)) (.int .u64 (ow (unc d').set 3)) (.slice a' (unc d').parts.length cap') (.int .i64 (unc d').mn) (.int .i64 (unc d').mx) (.int .i64 (unc d').num))
    (first | (with_reducible exact C17.drew HSS.out) | (with_reducible exact C17.drew (C17.put8 HSS.out hn1 hn2)) | (with_reducible exact C17.drew (C17.put9 (C17.put8 HSS.out hn1 hn2) hn3 hn4)) | (with_reducible exact C17.of HLz.out.k2 HLz.out.k3) | (with_reducible exact C17.put8 (by assumption) hn1 hn2) | (with_reducible exact C17.put9 (by assumption) hn3 hn4))
    (first | (go_at_call 77; refine (HFl.out _).mono ?_; rintro e w7 ⟨rfl, b7⟩; have hLz : RpL F FT w s false w7 st' d' (.slice ca' cl' cc') (.slice ma' ml' mc') a' cap' := (by first | exact HL6.out.step b7 | exact (HL6.out.step (Below.refl _ _).drew).step b7); have HLz := Lib.hid hLz; clear b7; obtain ⟨x0, x1, x2, x3, x4, x5, x6, x7, y0, y1, y2, y3, y4, y5, y6, y7, hx⟩ := blk8 hLz.k4; obtain ⟨z0, z1, z2, z3, z4, z5, z6, z7, z8, v0, v1, v2, v3, v4, v5, v6, v7, v8, hz⟩ := blk9n hLz.k5; clear hLz))
   all_goals
    go_wp2_with fail
    first
     | (with_reducible refine post17 HLz.out.b HLz.out.k4 HLz.out.k5 ?_ ?_ ?_ ?_)
     | (with_reducible refine post17d HLz.out.b HLz.out.k4 HLz.out.k5 ?_ ?_ ?_ rfl ?_)
    ·omega
    ·omega
    ·omega
    intro w9 hB9 hk9 hj9 hs9 hz9
    have HA := Lib.hid (HLz.out.failed (C := inCat) HRm.out HK'.out (show (7 : Nat) ≠ 0 by decide) hB9 hs9 hz9)
    clear x0 x1 x2 x3 x4 x5 x6 x7 y0 y1 y2 y3 y4 y5 y6 y7 hx z0 z1 z2 z3 z4 z5 z6 z7 z8 v0 v1 v2 v3 v4 v5 v6 v7 v8 hz
    obtain ⟨x0, x1, x2, x3, x4, x5, x6, x7, _⟩ := blk8 hk9
    obtain ⟨z0, z1, z2, z3, z4, z5, z6, z7, z8, _⟩ := blk9n hj9
    refine bodyPost_ret (v := .tuple #[.agg (rfC s false st'.pos st'.opened (.slice ca' cl' cc') (.slice ma' ml' mc') 7 (st'.pos : Int)), .agg (tC (unc d') a' cap')]) (by simp [results, Tryz.results79, go_sem, x0, x1, x2, x3, x4, x5, x6, x7, z0, z1, z2, z3, z4, z5, z6, z7, z8]) rfl ?_
    first | exact HA.out | exact HA.out.drew
  | some mn mx c nx =>
   rw [hrp] at hRm
   have hjs := HMv.out _ _ _ _ hrp
   have HJ := Lib.hid hjs
   rcases rep_some_at false s.data.toList st'.pos mn mx c nx hrp with ⟨hp, rfl, rfl, rfl, hnx⟩ | ⟨hp, rfl, rfl, hc, hnx⟩ | ⟨hp, rfl, rfl, hc, hnx⟩ | ⟨hp, hi, rfl⟩
   ·have e1 := (sgn_ch ht 42 (by decide)).2 hp
    have hx9 : nx = st'.pos + 1 := hnx
    clear hnx hp hrp hjs
    have HRm := Lib.hid (show R = repM false s.data.toList m0 ⟨nx, st'.opened, st'.closed, st'.marks⟩ (.rep d' (0) (-1)) from hRm)
    clear hRm
    have hts : t.size = 1 := by
     rw [← ByteArray.size_data, ← Array.length_toList, ← ByteArray.toList_eq, e1]
     rfl
    have Wn : IntKind.i64.wrap ((st'.pos : Int) + (t.size : Int)) = ((st'.pos + 1 : Nat) : Int) := by rw [hts, IntWalk.i64_in _ (by omega)]; omega
    obtain ⟨nx0, hnx0⟩ : ∃ nx0, nx0 = st'.pos + 1 := ⟨_, rfl⟩
    rw [← hnx0] at Wn
    have HN0 := Lib.hid hnx0
    have HT := Lib.hid ht
    clear hts ht hnx0
    have HNX := Lib.hid (show nx = nx0 by have := HN0.out; omega)
    clear hx9
    go_wp2_with fail
    go_quiet (fail)
    have HLq := Lib.hid (HL2.out.step (below_drewN (Below.refl _ _) nq))
    generalize w2.drewN nq = wq at *
    clear c0 c1 c2 c3 c4 c5 c6 c7 f0 f1 f2 f3 f4 f5 f6 f7 hl
    obtain ⟨c0, c1, c2, c3, c4, c5, c6, c7, f0, f1, f2, f3, f4, f5, f6, f7, hl⟩ := blk8 HLq.out.k2
    obtain ⟨e0, e1, e2, e3, e4, e5, e6, e7, e8, g0, g1, g2, g3, g4, g5, g6, g7, g8, he⟩ := blk9n HLq.out.k3
    go_wp2_with fail
    go_roundw
    case rel =>
     refine ⟨m0, ⟨nx, st'.opened, st'.closed, st'.marks⟩, .rep d' (0) (-1), .slice ca' cl' cc', .slice ma' ml' mc', some ⟨wq.heap.size, 0, none⟩, 1, HRm.out, ?_, rfl, ?_⟩
     ·have := HM'.out; have := HNX.out; have := HJ.out; show s.size < m0 + nx; omega
     ·have hx := HNX.out
      subst hx
      exact HLq.out.next HLq.out.b HLq.out.k2 (fun _ _ => rfl) rfl HLq.out.r.m (by have := HLq.out.r.ml; have := HJ.out; omega) _ _ (by have := HJ.out; omega) HJ.out.2 rfl
    case measure =>
     have h1 := HNX.out
     have h2 := HJ.out
     have h3 := HLq.out.r.ml
     have h9 := HN0.out
     have h5 : st'.marks.length ≤ nx0 := by omega
     have h6 : st'.pos ≤ nx0 := by omega
     have h7 : nx0 ≤ s.size := by omega
     have hA := RpL.at' (HLq.out.next HLq.out.b HLq.out.k2 (fun _ _ => rfl) rfl HLq.out.r.m (nx := nx0) h5 (0) (-1) h6 h7 rfl)
     have hB := HL1.out.at'
     rw [hB, hA]
     have h10 := HPS.out
     clear hA hB c0 c1 c2 c3 c4 c5 c6 c7 f0 f1 f2 f3 f4 f5 f6 f7 hl e0 e1 e2 e3 e4 e5 e6 e7 e8 g0 g1 g2 g3 g4 g5 g6 g7 g8 he
     show s.size - nx0 < s.size - st'.pos
     omega
   ·have e1 := (sgn_es ht 43).2 hp
    have hx9 : nx = st'.pos + 2 := hnx
    clear hnx hp hrp hjs
    subst hc
    have HRm := Lib.hid (show R = repM false s.data.toList m0 ⟨nx, st'.opened, st'.closed, (st'.marks ++ [(st'.pos, 43)])⟩ (.rep d' (1) (-1)) from hRm)
    clear hRm
    have HET : Hid (t = ⟨#[92, 43]⟩) := Lib.hid (ba_ext (by rw [← ByteArray.toList_eq, e1]))
    have hts : t.size = 2 := by
     rw [← ByteArray.size_data, ← Array.length_toList, ← ByteArray.toList_eq, e1]
     rfl
    have Wn : IntKind.i64.wrap ((st'.pos : Int) + (t.size : Int)) = ((st'.pos + 2 : Nat) : Int) := by rw [hts, IntWalk.i64_in _ (by omega)]; omega
    obtain ⟨nx0, hnx0⟩ : ∃ nx0, nx0 = st'.pos + 2 := ⟨_, rfl⟩
    rw [← hnx0] at Wn
    have HN0 := Lib.hid hnx0
    have HT := Lib.hid ht
    clear hts ht hnx0
    have HNX := Lib.hid (show nx = nx0 by have := HN0.out; omega)
    clear hx9
    go_wp2_with fail
    go_quiet (fail)
    have HLq := Lib.hid (HL2.out.step (below_drewN (Below.refl _ _) nq))
    generalize w2.drewN nq = wq at *
    clear c0 c1 c2 c3 c4 c5 c6 c7 f0 f1 f2 f3 f4 f5 f6 f7 hl
    obtain ⟨c0, c1, c2, c3, c4, c5, c6, c7, f0, f1, f2, f3, f4, f5, f6, f7, hl⟩ := blk8 HLq.out.k2
    go_wp2_with fail
    refine (HOp.out _ _ _ _ _).mono ?_
    rintro e w3 ⟨rfl, b3⟩
    have HL3 := Lib.hid (HLq.out.step b3)
    clear b3
    clear c0 c1 c2 c3 c4 c5 c6 c7 f0 f1 f2 f3 f4 f5 f6 f7 hl
    obtain ⟨c0, c1, c2, c3, c4, c5, c6, c7, f0, f1, f2, f3, f4, f5, f6, f7, hl⟩ := blk8 HL3.out.k2
    go_wp2_with fail
    have hmk := HMk.out _ s false st'.pos st'.opened (.slice ca' cl' cc') (.slice ma' ml' mc') st'.marks 43 w3 HL3.out.r.c.form HL3.out.r.m (by have := HL3.out.r.ml; omega)
    rw [show (ByteArray.mk #[92, 43]) = t from HET.out.symm] at hmk
    with_reducible refine hmk.mono ?_
    clear hmk
    rintro e w7 ⟨mv7, rfl, hm7, b7⟩
    obtain ⟨ma7, ml7, mc7, rfl⟩ := hm7.form
    have HL7 := Lib.hid (HL3.out.step b7)
    have HM7 := Lib.hid (hm7.keep (G := fun b => (F b ∧ b < w.heap.size) ∨ w.heap.size + 4 ≤ b) (Nat.le_refl _) (fun b hf _ => ⟨.inr (by have := HL3.out.k5.lt; omega), fun _ => rfl⟩))
    clear b7 hm7
    clear c0 c1 c2 c3 c4 c5 c6 c7 f0 f1 f2 f3 f4 f5 f6 f7 hl
    obtain ⟨c0, c1, c2, c3, c4, c5, c6, c7, f0, f1, f2, f3, f4, f5, f6, f7, hl⟩ := blk8 HL7.out.k2
    obtain ⟨e0, e1, e2, e3, e4, e5, e6, e7, e8, g0, g1, g2, g3, g4, g5, g6, g7, g8, he⟩ := blk9n HL7.out.k3
    go_wp2_with fail
    go_roundw
    case rel =>
     obtain ⟨hB8, hk8, hs8, hz8⟩ := put8 HL7.out.b (Nat.le_refl _) HL7.out.k2 (.string s) (.bool false) (.int .i64 (st'.pos : Int)) (.int .i64 (st'.opened : Int)) (.slice ca' cl' cc') (.slice ma7 ml7 mc7) (.int .i64 0) (.int .i64 0) _ rfl
     have hx := HNX.out
     subst hx
     refine ⟨m0, ⟨nx, st'.opened, st'.closed, st'.marks ++ [(st'.pos, 43)]⟩, .rep d' (1) (-1), .slice ca' cl' cc', .slice ma7 ml7 mc7, some ⟨w7.heap.size, 0, none⟩, 1, HRm.out, ?_, rfl, HL7.out.next hB8 hk8 hs8 hz8 HM7.out (nx := nx) ?_ _ _ ?_ ?_ ?_⟩
     ·have := HM'.out; have := HJ.out; show s.size < m0 + nx; omega
     ·have := HL7.out.r.ml; have := HN0.out; simp; omega
     ·have := HN0.out; omega
     ·have := HJ.out; omega
     ·exact hz8.symm
    case measure =>
     have h1 := HNX.out
     have h2 := HJ.out
     have h3 := HL7.out.r.ml
     have h9 := HN0.out
     obtain ⟨hB8, hk8, hs8, hz8⟩ := put8 HL7.out.b (Nat.le_refl _) HL7.out.k2 (.string s) (.bool false) (.int .i64 (st'.pos : Int)) (.int .i64 (st'.opened : Int)) (.slice ca' cl' cc') (.slice ma7 ml7 mc7) (.int .i64 0) (.int .i64 0) _ rfl
     have h5 : (st'.marks ++ [(st'.pos, 43)]).length ≤ nx0 := by simp; omega
     have h6 : st'.pos ≤ nx0 := by omega
     have h7 : nx0 ≤ s.size := by omega
     have hA := RpL.at' (HL7.out.next hB8 hk8 hs8 hz8 HM7.out (nx := nx0) h5 (1) (-1) h6 h7 hz8.symm)
     have hB := HL1.out.at'
     rw [hB, hA]
     have h10 := HPS.out
     clear hA hB c0 c1 c2 c3 c4 c5 c6 c7 f0 f1 f2 f3 f4 f5 f6 f7 hl e0 e1 e2 e3 e4 e5 e6 e7 e8 g0 g1 g2 g3 g4 g5 g6 g7 g8 he
     show s.size - nx0 < s.size - st'.pos
     omega
   ·have e1 := (sgn_es ht 63).2 hp
    have hx9 : nx = st'.pos + 2 := hnx
    clear hnx hp hrp hjs
    subst hc
    have HRm := Lib.hid (show R = repM false s.data.toList m0 ⟨nx, st'.opened, st'.closed, (st'.marks ++ [(st'.pos, 63)])⟩ (.rep d' (0) (1)) from hRm)
    clear hRm
    have HET : Hid (t = ⟨#[92, 63]⟩) := Lib.hid (ba_ext (by rw [← ByteArray.toList_eq, e1]))
    have hts : t.size = 2 := by
     rw [← ByteArray.size_data, ← Array.length_toList, ← ByteArray.toList_eq, e1]
     rfl
    have Wn : IntKind.i64.wrap ((st'.pos : Int) + (t.size : Int)) = ((st'.pos + 2 : Nat) : Int) := by rw [hts, IntWalk.i64_in _ (by omega)]; omega
    obtain ⟨nx0, hnx0⟩ : ∃ nx0, nx0 = st'.pos + 2 := ⟨_, rfl⟩
    rw [← hnx0] at Wn
    have HN0 := Lib.hid hnx0
    have HT := Lib.hid ht
    clear hts ht hnx0
    have HNX := Lib.hid (show nx = nx0 by have := HN0.out; omega)
    clear hx9
    go_wp2_with fail
    go_quiet (fail)
    have HLq := Lib.hid (HL2.out.step (below_drewN (Below.refl _ _) nq))
    generalize w2.drewN nq = wq at *
    clear c0 c1 c2 c3 c4 c5 c6 c7 f0 f1 f2 f3 f4 f5 f6 f7 hl
    obtain ⟨c0, c1, c2, c3, c4, c5, c6, c7, f0, f1, f2, f3, f4, f5, f6, f7, hl⟩ := blk8 HLq.out.k2
    go_wp2_with fail
    refine (HOp.out _ _ _ _ _).mono ?_
    rintro e w3 ⟨rfl, b3⟩
    have HL3 := Lib.hid (HLq.out.step b3)
    clear b3
    clear c0 c1 c2 c3 c4 c5 c6 c7 f0 f1 f2 f3 f4 f5 f6 f7 hl
    obtain ⟨c0, c1, c2, c3, c4, c5, c6, c7, f0, f1, f2, f3, f4, f5, f6, f7, hl⟩ := blk8 HL3.out.k2
    go_wp2_with fail
    refine (HOp.out _ _ _ _ _).mono ?_
    rintro e w4 ⟨rfl, b4⟩
    have HL4 := Lib.hid (HL3.out.step b4)
    clear b4
    clear c0 c1 c2 c3 c4 c5 c6 c7 f0 f1 f2 f3 f4 f5 f6 f7 hl
    obtain ⟨c0, c1, c2, c3, c4, c5, c6, c7, f0, f1, f2, f3, f4, f5, f6, f7, hl⟩ := blk8 HL4.out.k2
    go_wp2_with fail
    have hmk := HMk.out _ s false st'.pos st'.opened (.slice ca' cl' cc') (.slice ma' ml' mc') st'.marks 63 w4 HL4.out.r.c.form HL4.out.r.m (by have := HL4.out.r.ml; omega)
    rw [show (ByteArray.mk #[92, 63]) = t from HET.out.symm] at hmk
    with_reducible refine hmk.mono ?_
    clear hmk
    rintro e w7 ⟨mv7, rfl, hm7, b7⟩
    obtain ⟨ma7, ml7, mc7, rfl⟩ := hm7.form
    have HL7 := Lib.hid (HL4.out.step b7)
    have HM7 := Lib.hid (hm7.keep (G := fun b => (F b ∧ b < w.heap.size) ∨ w.heap.size + 4 ≤ b) (Nat.le_refl _) (fun b hf _ => ⟨.inr (by have := HL4.out.k5.lt; omega), fun _ => rfl⟩))
    clear b7 hm7
    clear c0 c1 c2 c3 c4 c5 c6 c7 f0 f1 f2 f3 f4 f5 f6 f7 hl
    obtain ⟨c0, c1, c2, c3, c4, c5, c6, c7, f0, f1, f2, f3, f4, f5, f6, f7, hl⟩ := blk8 HL7.out.k2
    obtain ⟨e0, e1, e2, e3, e4, e5, e6, e7, e8, g0, g1, g2, g3, g4, g5, g6, g7, g8, he⟩ := blk9n HL7.out.k3
    go_wp2_with fail
    go_roundw
    case rel =>
     obtain ⟨hB8, hk8, hs8, hz8⟩ := put8 HL7.out.b (Nat.le_refl _) HL7.out.k2 (.string s) (.bool false) (.int .i64 (st'.pos : Int)) (.int .i64 (st'.opened : Int)) (.slice ca' cl' cc') (.slice ma7 ml7 mc7) (.int .i64 0) (.int .i64 0) _ rfl
     have hx := HNX.out
     subst hx
     refine ⟨m0, ⟨nx, st'.opened, st'.closed, st'.marks ++ [(st'.pos, 63)]⟩, .rep d' (0) (1), .slice ca' cl' cc', .slice ma7 ml7 mc7, some ⟨w7.heap.size, 0, none⟩, 1, HRm.out, ?_, rfl, HL7.out.next hB8 hk8 hs8 hz8 HM7.out (nx := nx) ?_ _ _ ?_ ?_ ?_⟩
     ·have := HM'.out; have := HJ.out; show s.size < m0 + nx; omega
     ·have := HL7.out.r.ml; have := HN0.out; simp; omega
     ·have := HN0.out; omega
     ·have := HJ.out; omega
     ·exact hz8.symm
    case measure =>
     have h1 := HNX.out
     have h2 := HJ.out
     have h3 := HL7.out.r.ml
     have h9 := HN0.out
     obtain ⟨hB8, hk8, hs8, hz8⟩ := put8 HL7.out.b (Nat.le_refl _) HL7.out.k2 (.string s) (.bool false) (.int .i64 (st'.pos : Int)) (.int .i64 (st'.opened : Int)) (.slice ca' cl' cc') (.slice ma7 ml7 mc7) (.int .i64 0) (.int .i64 0) _ rfl
     have h5 : (st'.marks ++ [(st'.pos, 63)]).length ≤ nx0 := by simp; omega
     have h6 : st'.pos ≤ nx0 := by omega
     have h7 : nx0 ≤ s.size := by omega
     have hA := RpL.at' (HL7.out.next hB8 hk8 hs8 hz8 HM7.out (nx := nx0) h5 (0) (1) h6 h7 hz8.symm)
     have hB := HL1.out.at'
     rw [hB, hA]
     have h10 := HPS.out
     clear hA hB c0 c1 c2 c3 c4 c5 c6 c7 f0 f1 f2 f3 f4 f5 f6 f7 hl e0 e1 e2 e3 e4 e5 e6 e7 e8 g0 g1 g2 g3 g4 g5 g6 g7 g8 he
     show s.size - nx0 < s.size - st'.pos
     omega
   ·have e1 := (sgn_es ht 123).2 hp
    have HRm := Lib.hid (show R = repM false s.data.toList m0 ⟨nx, st'.opened, st'.closed, st'.marks⟩ (.rep d' mn mx) from hRm)
    clear hp hRm hrp hjs
    have hts : t.size = 2 := by
     rw [← ByteArray.size_data, ← Array.length_toList, ← ByteArray.toList_eq, e1]
     rfl
    have Wn : IntKind.i64.wrap ((st'.pos : Int) + (t.size : Int)) = ((st'.pos + 2 : Nat) : Int) := by rw [hts, IntWalk.i64_in _ (by omega)]; omega
    obtain ⟨nx0, hnx0⟩ : ∃ nx0, nx0 = st'.pos + 2 := ⟨_, rfl⟩
    rw [← hnx0] at Wn
    have HN0 := Lib.hid hnx0
    have HT := Lib.hid ht
    clear hts ht hnx0
    have HIv := Lib.hid (fun w => rinterval_any s false st'.pos st'.opened (.slice ca' cl' cc') (.slice ma' ml' mc') 0 0 nx0 w HPS.out.2 (by have := HPS.out; have := HN0.out; omega) ⟨_, _, _, rfl⟩ ⟨_, _, _, rfl⟩)
    have HIv2 := HIv.out
    rw [show intv false s.data.toList nx0 = some (mn, mx, nx) from (by rw [HN0.out]; exact hi)] at HIv2
    unfold rivAns at HIv2
    simp only at HIv2
    have HIw := Lib.hid HIv2
    clear HIv2 HIv hi
    have HNX := Lib.hid (rfl : nx = nx)
    go_wp2_with fail
    go_quiet (fail)
    have HLq := Lib.hid (HL2.out.step (below_drewN (Below.refl _ _) nq))
    generalize w2.drewN nq = wq at *
    clear c0 c1 c2 c3 c4 c5 c6 c7 f0 f1 f2 f3 f4 f5 f6 f7 hl
    obtain ⟨c0, c1, c2, c3, c4, c5, c6, c7, f0, f1, f2, f3, f4, f5, f6, f7, hl⟩ := blk8 HLq.out.k2
    go_wp2_with fail
    refine (HOp.out _ _ _ _ _).mono ?_
    rintro e w3 ⟨rfl, b3⟩
    have HL3 := Lib.hid (HLq.out.step b3)
    clear b3
    clear c0 c1 c2 c3 c4 c5 c6 c7 f0 f1 f2 f3 f4 f5 f6 f7 hl
    obtain ⟨c0, c1, c2, c3, c4, c5, c6, c7, f0, f1, f2, f3, f4, f5, f6, f7, hl⟩ := blk8 HL3.out.k2
    go_wp2_with fail
    refine (HOp.out _ _ _ _ _).mono ?_
    rintro e w4 ⟨rfl, b4⟩
    have HL4 := Lib.hid (HL3.out.step b4)
    clear b4
    clear c0 c1 c2 c3 c4 c5 c6 c7 f0 f1 f2 f3 f4 f5 f6 f7 hl
    obtain ⟨c0, c1, c2, c3, c4, c5, c6, c7, f0, f1, f2, f3, f4, f5, f6, f7, hl⟩ := blk8 HL4.out.k2
    go_wp2_with fail
    refine (HOp.out _ _ _ _ _).mono ?_
    rintro e w5 ⟨rfl, b5⟩
    have HL5 := Lib.hid (HL4.out.step b5)
    clear b5
    clear c0 c1 c2 c3 c4 c5 c6 c7 f0 f1 f2 f3 f4 f5 f6 f7 hl
    obtain ⟨c0, c1, c2, c3, c4, c5, c6, c7, f0, f1, f2, f3, f4, f5, f6, f7, hl⟩ := blk8 HL5.out.k2
    go_wp2_with fail
    refine (HIw.out _).mono ?_
    rintro e w6 ⟨rfl, b6⟩
    have HL6 := Lib.hid (HL5.out.step b6)
    clear b6
    clear c0 c1 c2 c3 c4 c5 c6 c7 f0 f1 f2 f3 f4 f5 f6 f7 hl
    obtain ⟨c0, c1, c2, c3, c4, c5, c6, c7, f0, f1, f2, f3, f4, f5, f6, f7, hl⟩ := blk8 HL6.out.k2
    obtain ⟨e0, e1, e2, e3, e4, e5, e6, e7, e8, g0, g1, g2, g3, g4, g5, g6, g7, g8, he⟩ := blk9n HL6.out.k3
    go_wp2_with fail
    go_roundw
    case rel =>
     refine ⟨m0, ⟨nx, st'.opened, st'.closed, st'.marks⟩, .rep d' (mn) (mx), .slice ca' cl' cc', .slice ma' ml' mc', some ⟨w6.heap.size, 0, none⟩, 1, HRm.out, ?_, rfl, ?_⟩
     ·have := HM'.out; have := HNX.out; have := HJ.out; show s.size < m0 + nx; omega
     ·exact HL6.out.next HL6.out.b HL6.out.k2 (fun _ _ => rfl) rfl HL6.out.r.m (by have := HL6.out.r.ml; have := HJ.out; omega) _ _ (by have := HJ.out; omega) HJ.out.2 rfl
    case measure =>
     have h1 := HNX.out
     have h2 := HJ.out
     have h3 := HL6.out.r.ml
     have h9 := HN0.out
     have h5 : st'.marks.length ≤ nx := by omega
     have h6 : st'.pos ≤ nx := by omega
     have h7 : nx ≤ s.size := by omega
     have hA := RpL.at' (HL6.out.next HL6.out.b HL6.out.k2 (fun _ _ => rfl) rfl HL6.out.r.m (nx := nx) h5 (mn) (mx) h6 h7 rfl)
     have hB := HL1.out.at'
     rw [hB, hA]
     have h10 := HPS.out
     clear hA hB c0 c1 c2 c3 c4 c5 c6 c7 f0 f1 f2 f3 f4 f5 f6 f7 hl e0 e1 e2 e3 e4 e5 e6 e7 e8 g0 g1 g2 g3 g4 g5 g6 g7 g8 he
     show s.size - nx < s.size - st'.pos
     omega
end Go.Proofs.YtkejeiopfblkgaaGreatDoor
