/- The proof's texts RfKF: what the claim reaches of them. -/
import Derived.Test.YtkejeiopfblkgaaGreatDoorBp15
namespace Go.Proofs.YtkejeiopfblkgaaGreatDoor
open Go Go.RowKit
set_option linter.unusedSimpArgs false in
set_option maxRecDepth 100000 in
set_option maxHeartbeats 40000000 in
theorem ratom_f_group (hMk : RMarkOk) {F : Nat → Prop} {s : ByteArray} {st : ReSt} {cv mv : Value} (w : World) (dp : Nat) (sub : Option (ReSt → ReRes (ReSt × Nd))) (hR : RfR F w s st cv mv) (hlt : st.pos < s.size) (f : ReSt → ReRes (ReSt × Nd)) (h40 : opAt false s.data.toList st.pos 40 = true) (hsub : sub = some f) (hdp : dp < 12) (hCh : ∀ (F' : Nat → Prop) (st' : ReSt) (cv' mv' : Value) (w' : World), RfR F' w' s st' cv' mv' → Calls Tryz.prog 30 #[.agg (rfC s false st'.pos st'.opened cv' mv' 0 0), .int .i64 ((dp : Int) + 1)] w' (RfAns F' (fun _ => False) (fun _ => true) false s (f st') w')) :
  Calls Tryz.prog 78 #[.agg (rfC s false st.pos st.opened cv mv 0 0), .int .i64 (dp : Int)] w (RfAns F (fun _ => False) (fun _ => true) false s (atomM false s.data.toList sub st) w) := by
 obtain ⟨R, hR0⟩ : ∃ R, R = atomM false s.data.toList sub st := ⟨_, rfl⟩
 rw [← hR0]
 obtain ⟨ca, cl, cc, rfl⟩ := hR.c.form
 obtain ⟨ma, ml, mc, rfl⟩ := hR.m.form
 have hsm := hR.small
 have H0 := Lib.hid (Fr.begin (ere := false) hR)
 have HR0 := Lib.hid hR0
 have HMk := Lib.hid hMk
 have HLt := Lib.hid (show st.pos < s.size ∧ s.size ≤ 250 from ⟨hlt, hsm⟩)
 have HSg := Lib.hid (fun w => rsign_any s false st.pos st.opened (.slice ca cl cc) (.slice ma ml mc) 0 0 st.pos w (by omega))
 have HOp := Lib.hid (fun (b : UInt8) w => rop_f s st.pos st.opened (.slice ca cl cc) (.slice ma ml mc) 0 0 b w)
 have HOne := Lib.hid (fun (t : OSet) w => rone_c t w)
 clear hR hR0 hMk hlt hsm
 go_enter Tryz.func78, Tryz.ntmps78
 go_upto_region 1 with fail
 have HF1 := Lib.hid H0.out
 generalize ((w.alloc (.cells (rfC s false st.pos st.opened (.slice ca cl cc) (.slice ma ml mc) 0 0) 87)).alloc (.cells rfZ 87)).alloc (.cells zC 36) = w1 at *
 obtain ⟨c0, c1, c2, c3, c4, c5, c6, c7, f0, f1, f2, f3, f4, f5, f6, f7, hl⟩ := blk8 HF1.out.k2
 go_wp2_with fail
 with_reducible refine (HSg.out _).mono ?_
 rintro e w2 ⟨t, rfl, ht, b2⟩
 have HF2 := Lib.hid (HF1.out.step b2)
 clear b2
 clear c0 c1 c2 c3 c4 c5 c6 c7 f0 f1 f2 f3 f4 f5 f6 f7 hl
 obtain ⟨c0, c1, c2, c3, c4, c5, c6, c7, f0, f1, f2, f3, f4, f5, f6, f7, hl⟩ := blk8 HF2.out.k2
 obtain ⟨p1, hp1⟩ : ∃ p1, p1 = st.pos + 2 := ⟨_, rfl⟩
 obtain ⟨o1, ho1⟩ : ∃ o1, o1 = st.opened + 1 := ⟨_, rfl⟩
 have hin : st.pos + 2 ≤ s.size := by have h9 := op_len h40; simp [opLen] at h9; omega
 have HP := Lib.hid (show p1 = st.pos + 2 ∧ o1 = st.opened + 1 ∧ p1 ≤ s.size from ⟨hp1, ho1, by omega⟩)
 have e1 := (sgn_es ht 40).2 h40
 have hts : t.size = 2 := by
  rw [← ByteArray.size_data, ← Array.length_toList, ← ByteArray.toList_eq, e1]
  rfl
 have hop := HF2.out.r.op
 have Wn : IntKind.i64.wrap ((st.pos : Int) + (t.size : Int)) = (p1 : Int) := by have := HLt.out; rw [hts, IntWalk.i64_in _ (by omega)]; omega
 have Wo : IntKind.i64.wrap ((st.opened : Int) + 1) = (o1 : Int) := by have := HLt.out; rw [IntWalk.i64_in _ (by omega)]; omega
 have Wd : IntKind.i64.wrap ((dp : Int) + 1) = (dp : Int) + 1 := IntWalk.i64_in _ (by omega)
 have e12 : ((dp : Int) == 12) = false := by rw [beq_eq_false_iff_ne]; omega
 have HCh := Lib.hid hCh
 have hg : R = (match f ⟨p1, o1, st.closed, st.marks⟩ with
   | .error e => .error e
   | .ok (st', d) => if opAt false s.data.toList st'.pos 41 then .ok ({ st' with pos := st'.pos + 2, closed := st'.closed ++ [(o1 : Int)] }, .group (o1 : Int) d) else .error (8, st.pos)) := by
  rw [HR0.out]
  unfold atomM
  rw [h40, hsub, hp1, ho1]
  simp only [grpM, opLen, if_true, Bool.false_eq_true, if_false]
  rcases f ⟨st.pos + 2, st.opened + 1, st.closed, st.marks⟩ with e | ⟨st', d⟩ <;> rfl
 have HG := Lib.hid hg
 have HTS := Lib.hid hts
 have HT := Lib.hid ht
 clear hp1 ho1 hin hts hop hCh hg h40 ht hsub hdp
 go_wp2_with fail
 with_reducible refine (HOp.out _ _).mono ?_
 rintro e w3 ⟨rfl, b3⟩
 have HF3 := Lib.hid (HF2.out.step b3)
 clear b3
 clear c0 c1 c2 c3 c4 c5 c6 c7 f0 f1 f2 f3 f4 f5 f6 f7 hl
 obtain ⟨c0, c1, c2, c3, c4, c5, c6, c7, f0, f1, f2, f3, f4, f5, f6, f7, hl⟩ := blk8 HF3.out.k2
 go_upto_region 9 with fail
 have HFx : Hid (Fr F w s false ((w3.setCell ⟨w.heap.size, 3, none⟩ (.int .i64 (o1 : Int))).setCell ⟨w.heap.size, 2, none⟩ (.int .i64 (p1 : Int))) ⟨p1, o1, st.closed, st.marks⟩ (.slice ca cl cc) (.slice ma ml mc)) := Lib.hid (HF3.out.upd ((HF3.out.b.setCell (p := ⟨w.heap.size, 3, none⟩) (Nat.le_refl _) _).setCell (p := ⟨w.heap.size, 2, none⟩) (Nat.le_refl _) _) (((HF3.out.k2.set 3 _).set 2 _).eqv (by simp)) (fun b hb => (far_set _ _ _ _ hb).trans (far_set _ _ _ _ hb)) (by simp [World.setCell])
  ⟨HF3.out.r.c, HF3.out.r.m, HP.out.2.2, HF3.out.r.small, by have h1 := HF3.out.r.cl; have := HP.out; show st.closed.length ≤ p1; omega, by have h1 := HF3.out.r.ml; have := HP.out; show st.marks.length ≤ p1; omega, by have h1 := HF3.out.r.op; have := HP.out; show o1 ≤ p1; omega⟩)
 clear c0 c1 c2 c3 c4 c5 c6 c7 f0 f1 f2 f3 f4 f5 f6 f7 hl
 generalize (w3.setCell ⟨w.heap.size, 3, none⟩ (.int .i64 (o1 : Int))).setCell ⟨w.heap.size, 2, none⟩ (.int .i64 (p1 : Int)) = W at *
 obtain ⟨c0, c1, c2, c3, c4, c5, c6, c7, f0, f1, f2, f3, f4, f5, f6, f7, hl⟩ := blk8 HFx.out.k2
 have hch := HCh.out _ ⟨p1, o1, st.closed, st.marks⟩ _ _ W HFx.out.r
 cases F9 : f ⟨p1, o1, st.closed, st.marks⟩ with
 | error q =>
  rw [F9] at hch
  have HRx := Lib.hid (show R = .error q by rw [HG.out, F9])
  clear F9
  go_wp2_with fail
  with_reducible refine hch.mono ?_
  clear hch
  intro e w5 hA
  obtain ⟨hB5, at', op', cv', mv', d', a', cap', rfl, ⟨ca', cl', cc', rfl⟩, ⟨ma', ml', mc', rfl⟩, h5, h6, h7⟩ := hA
  go_upto_region 10 with fail
  have HF5 := Lib.hid (HFx.out.step hB5)
  have HQ9 := Lib.hid ((Blk.new w5 (rfC s false at' op' (.slice ca' cl' cc') (.slice ma' ml' mc') (q.1 : Int) (q.2 : Int)) 87 w5.heap.size rfl).alloc (.cells (tC (unc d') a' cap') 36))
  have hAA := ((Below.refl w5.heap.size w5).alloc (Nat.le_refl _) (.cells (rfC s false at' op' (.slice ca' cl' cc') (.slice ma' ml' mc') (q.1 : Int) (q.2 : Int)) 87)).alloc (by simp) (.cells (tC (unc d') a' cap') 36)
  have HF6 := Lib.hid (HF5.out.step hAA)
  have HEq := Lib.hid h5
  have e9 : ((q.1 : Int) == 0) = false := by rw [beq_eq_false_iff_ne]; exact fun h => h5 (by simpa using h)
  have e9' : ((q.1 : Int) != 0) = true := by simp [bne, e9]
  clear hB5 h5 h6 h7 hAA
  clear c0 c1 c2 c3 c4 c5 c6 c7 f0 f1 f2 f3 f4 f5 f6 f7 hl
  generalize (w5.alloc (.cells (rfC s false at' op' (.slice ca' cl' cc') (.slice ma' ml' mc') (q.1 : Int) (q.2 : Int)) 87)).alloc (.cells (tC (unc d') a' cap') 36) = w6 at *
  generalize w5.heap.size = q9 at *
  obtain ⟨c0, c1, c2, c3, c4, c5, c6, c7, f0, f1, f2, f3, f4, f5, f6, f7, hl⟩ := blk8 HQ9.out
  go_quiet (fail)
  have HFq := Lib.hid (HF6.out.step (below_drewN (Below.refl _ _) nq))
  obtain ⟨x0, x1, x2, x3, x4, x5, x6, x7, y0, y1, y2, y3, y4, y5, y6, y7, hx⟩ := blk8 HFq.out.k4; obtain ⟨z0, z1, z2, z3, z4, z5, z6, z7, z8, v0, v1, v2, v3, v4, v5, v6, v7, v8, hz⟩ := blk9n HFq.out.k5
  go_wp2_with fail
  clear c0 c1 c2 c3 c4 c5 c6 c7 f0 f1 f2 f3 f4 f5 f6 f7 hl
  all_goals
   go_wp2_with fail
   first
    | (with_reducible refine post17 HFq.out.b HFq.out.k4 HFq.out.k5 ?_ ?_ ?_ ?_)
    | (with_reducible refine post17d HFq.out.b HFq.out.k4 HFq.out.k5 ?_ ?_ ?_ rfl ?_)
   ·omega
   ·omega
   ·omega
   intro w9 hB9 hk9 hj9 hs9 hz9
   have HA := Lib.hid (show RfAns F (fun _ => False) (fun _ => true) false s R w (.returned (.tuple #[.agg (rfC s false at' op' (.slice ca' cl' cc') (.slice ma' ml' mc') (q.1 : Int) (q.2 : Int)), .agg zC])) w9 by rw [HRx.out]; exact ⟨hB9, at', op', _, _, .empty, none, 0, by rw [zc_empty], ⟨_, _, _, rfl⟩, ⟨_, _, _, rfl⟩, HEq.out, trx_leaf rfl, rfl⟩)
   clear x0 x1 x2 x3 x4 x5 x6 x7 y0 y1 y2 y3 y4 y5 y6 y7 hx z0 z1 z2 z3 z4 z5 z6 z7 z8 v0 v1 v2 v3 v4 v5 v6 v7 v8 hz
   obtain ⟨x0, x1, x2, x3, x4, x5, x6, x7, _⟩ := blk8 hk9
   obtain ⟨z0, z1, z2, z3, z4, z5, z6, z7, z8, _⟩ := blk9n hj9
   refine bodyPost_ret (v := .tuple #[.agg (rfC s false at' op' (.slice ca' cl' cc') (.slice ma' ml' mc') (q.1 : Int) (q.2 : Int)), .agg zC]) (by simp [results, Tryz.results78, go_sem, x0, x1, x2, x3, x4, x5, x6, x7, z0, z1, z2, z3, z4, z5, z6, z7, z8]) rfl ?_
   first | exact HA.out | exact HA.out.drew
 | ok q =>
  rw [F9] at hch
  have HRx := Lib.hid (show R = if opAt false s.data.toList q.1.pos 41 then .ok ({ q.1 with pos := q.1.pos + 2, closed := q.1.closed ++ [(o1 : Int)] }, .group (o1 : Int) q.2) else .error (8, st.pos) by rw [HG.out, F9])
  clear F9
  go_wp2_with fail
  with_reducible refine hch.mono ?_
  clear hch
  intro e w5 hA
  obtain ⟨hB5, cv', mv', a', cap', rfl, hr5, ht5⟩ := hA
  obtain ⟨ca', cl', cc', rfl⟩ := hr5.c.form
  obtain ⟨ma', ml', mc', rfl⟩ := hr5.m.form
  go_upto_region 10 with fail
  have HF5 := Lib.hid (HFx.out.step hB5)
  have hAA := ((Below.refl w5.heap.size w5).alloc (Nat.le_refl _) (.cells (rfC s false q.1.pos q.1.opened (.slice ca' cl' cc') (.slice ma' ml' mc') 0 0) 87)).alloc (by simp) (.cells (tC (unc q.2) a' cap') 36)
  have hWs := HFx.out.k5.lt
  have HQ9 := Lib.hid ((Blk.new w5 (rfC s false q.1.pos q.1.opened (.slice ca' cl' cc') (.slice ma' ml' mc') 0 0) 87 w5.heap.size rfl).alloc (.cells (tC (unc q.2) a' cap') 36))
  have HQ10 := Lib.hid (Blk.new (w5.alloc (.cells (rfC s false q.1.pos q.1.opened (.slice ca' cl' cc') (.slice ma' ml' mc') 0 0) 87)) (tC (unc q.2) a' cap') 36 (w5.heap.size + 1) (by simp))
  have HR6 : Hid (RfR (fun b => ((F b ∧ b < w.heap.size) ∨ w.heap.size + 3 ≤ b) ∧ b < w5.heap.size) ((w5.alloc (.cells (rfC s false q.1.pos q.1.opened (.slice ca' cl' cc') (.slice ma' ml' mc') 0 0) 87)).alloc (.cells (tC (unc q.2) a' cap') 36)) s q.1 (.slice ca' cl' cc') (.slice ma' ml' mc')) := Lib.hid (hr5.keep hAA.size (fun b hf hlt => ⟨⟨hf.elim id (fun h => .inr (by omega)), hlt⟩, fun o => hAA.cell (p := ⟨b, o, none⟩) hlt⟩))
  have HT6 : Hid (TrX (fun b => w.heap.size + 3 ≤ b ∧ b < w5.heap.size) ((w5.alloc (.cells (rfC s false q.1.pos q.1.opened (.slice ca' cl' cc') (.slice ma' ml' mc') 0 0) 87)).alloc (.cells (tC (unc q.2) a' cap') 36)) (unc q.2) a' cap') := Lib.hid (ht5.keep hAA.size (fun b hf hlt => ⟨⟨by have := hf.resolve_left id; omega, hlt⟩, fun o => hAA.cell (p := ⟨b, o, none⟩) hlt⟩))
  have HF6 := Lib.hid (HF5.out.step hAA)
  have HG9 := Lib.hid (show w.heap.size + 3 ≤ w5.heap.size by have := HF5.out.k5.lt; omega)
  have HPq := Lib.hid (show q.1.pos ≤ s.size ∧ s.size ≤ 250 from ⟨hr5.pos, hr5.small⟩)
  clear hB5 hr5 ht5 hAA hWs
  clear c0 c1 c2 c3 c4 c5 c6 c7 f0 f1 f2 f3 f4 f5 f6 f7 hl
  generalize (w5.alloc (.cells (rfC s false q.1.pos q.1.opened (.slice ca' cl' cc') (.slice ma' ml' mc') 0 0) 87)).alloc (.cells (tC (unc q.2) a' cap') 36) = w6 at *
  generalize w5.heap.size = q9 at *
  have HSg2 := Lib.hid (fun w => rsign_any s false q.1.pos q.1.opened (.slice ca' cl' cc') (.slice ma' ml' mc') 0 0 q.1.pos w (by have := HPq.out; omega))
  have HOp2 := Lib.hid (fun (b : UInt8) w => rop_f s q.1.pos q.1.opened (.slice ca' cl' cc') (.slice ma' ml' mc') 0 0 b w)
  have HSS := Lib.hid (C8.of HQ9.out)
  obtain ⟨O, hO⟩ : ∃ O, O = opAt false s.data.toList q.1.pos 41 := ⟨_, rfl⟩
  rw [← hO] at HRx
  have HO := Lib.hid (fun (t : ByteArray) (ht : t.data.toList = signL s.data.toList q.1.pos) => (show (t.toList == [92, 41]) = O by
   rw [hO]
   cases h : opAt false s.data.toList q.1.pos 41 with
   | true => rw [beq_iff_eq]; exact (sgn_es ht 41).2 h
   | false => exact (sgn_no_es ht 41 h).1))
  have HOl := Lib.hid (show O = true → q.1.pos + 2 ≤ s.size from fun h => by have h9 := op_len (hO.symm.trans h); simp [opLen] at h9; omega)
  clear hO
  go_cut [60] (fun s60 wx => s60 = .bool (!O) ∧ Below w6.heap.size w6 wx)
  case first =>
   go_region_held3 (fun w' => C8 w' q9 (.string s) (.bool false) (.int .i64 (q.1.pos : Int)) (.int .i64 (q.1.opened : Int)) (.slice ca' cl' cc') (.slice ma' ml' mc') (.int .i64 0) (.int .i64 0))
    (first | (with_reducible exact C8.drew HSS.out) | (with_reducible exact C8.of HX8.out) | (with_reducible exact C8.of HX7.out))
    (first | (go_at_call 56; refine (HSg2.out _).mono ?_; rintro e w7 ⟨t7, rfl, ht7, b7⟩; have h7 := HO.out t7 ht7; have hB7 := (by first | exact b7 | exact (Below.refl _ _).drew.trans b7 | exact HB8.out.trans (b7.mono HB8.out.size) : Below w6.heap.size w6 w7); have HB7 := Lib.hid hB7; have HX7 := Lib.hid (HQ9.out.below hB7 HQ9.out.lt); clear b7 hB7 ht7) | (go_at_call 57; refine (HOp2.out _ _).mono ?_; rintro e w8 ⟨rfl, b8⟩; have hB8 := (by first | exact b8 | exact (Below.refl _ _).drew.trans b8 | exact HB7.out.trans (b8.mono HB7.out.size) : Below w6.heap.size w6 w8); have HB8 := Lib.hid hB8; have HX8 := Lib.hid (HQ9.out.below hB8 HQ9.out.lt); clear b8 hB8))
   all_goals go_wp2_with fail
   all_goals go_meet
   all_goals first
    | exact ⟨rfl, HB8.out⟩
    | exact ⟨rfl, HB7.out⟩
  case rest =>
   obtain ⟨rfl, hb⟩ := hcut
   have HF7 := Lib.hid (HF6.out.step hb)
   have HQ9b := Lib.hid (HQ9.out.below hb HQ9.out.lt)
   have HQ10b := Lib.hid (HQ10.out.below hb HQ10.out.lt)
   have HR7 := Lib.hid (HR6.out.below hb)
   have HT7 := Lib.hid (HT6.out.below hb)
   clear hb
   cases O with
   | false =>
    have HRy := Lib.hid (show R = .error (8, st.pos) from HRx.out)
    have HFl := Lib.hid (fun w => rfail_any s false q.1.pos q.1.opened (.slice ca' cl' cc') (.slice ma' ml' mc') 8 (st.pos : Int) w ⟨_, _, _, rfl⟩ ⟨_, _, _, rfl⟩)
    obtain ⟨c0, c1, c2, c3, c4, c5, c6, c7, f0, f1, f2, f3, f4, f5, f6, f7, hl⟩ := blk8 HQ9b.out
    go_wp2_with fail
    with_reducible refine (HFl.out _).mono ?_
    rintro e w9 ⟨rfl, b9⟩
    have HF9 := Lib.hid (HF7.out.step b9)
    have HQ9c := Lib.hid (HQ9b.out.below b9 HQ9b.out.lt)
    clear b9
    clear c0 c1 c2 c3 c4 c5 c6 c7 f0 f1 f2 f3 f4 f5 f6 f7 hl
    obtain ⟨c0, c1, c2, c3, c4, c5, c6, c7, f0, f1, f2, f3, f4, f5, f6, f7, hl⟩ := blk8 HQ9c.out
    go_upto_region 12 with fail
    have HP8 := Lib.hid (put8 HF9.out.b (show w.heap.size ≤ q9 by have := HG9.out; omega) HQ9c.out (.string s) (.bool false) (.int .i64 (q.1.pos : Int)) (.int .i64 (q.1.opened : Int)) (.slice ca' cl' cc') (.slice ma' ml' mc') (.int .i64 8) (.int .i64 (st.pos : Int)) _ rfl)
    clear c0 c1 c2 c3 c4 c5 c6 c7 f0 f1 f2 f3 f4 f5 f6 f7 hl
    generalize ((((((((w9.setCell ⟨q9, 0, none⟩ (.string s)).setCell ⟨q9, 1, none⟩ (.bool false)).setCell ⟨q9, 2, none⟩ (.int .i64 (q.1.pos : Int))).setCell ⟨q9, 3, none⟩ (.int .i64 (q.1.opened : Int))).setCell ⟨q9, 4, none⟩ (.slice ca' cl' cc')).setCell ⟨q9, 5, none⟩ (.slice ma' ml' mc')).setCell ⟨q9, 6, none⟩ (.int .i64 8)).setCell ⟨q9, 7, none⟩ (.int .i64 (st.pos : Int))) = W2 at *
    have HK4 := Lib.hid (HF9.out.k4.same (HP8.out.2.2.1 _ (by have := HG9.out; omega)))
    have HK5 := Lib.hid (HF9.out.k5.same (HP8.out.2.2.1 _ (by have := HG9.out; omega)))
    obtain ⟨c0, c1, c2, c3, c4, c5, c6, c7, f0, f1, f2, f3, f4, f5, f6, f7, hl⟩ := blk8 HP8.out.2.1
    obtain ⟨x0, x1, x2, x3, x4, x5, x6, x7, y0, y1, y2, y3, y4, y5, y6, y7, hx⟩ := blk8 HK4.out
    obtain ⟨z0, z1, z2, z3, z4, z5, z6, z7, z8, v0, v1, v2, v3, v4, v5, v6, v7, v8, hz⟩ := blk9n HK5.out
    go_wp2_with fail
    clear c0 c1 c2 c3 c4 c5 c6 c7 f0 f1 f2 f3 f4 f5 f6 f7 hl
    all_goals
     go_wp2_with fail
     first
      | (with_reducible refine post17 HP8.out.1 HK4.out HK5.out ?_ ?_ ?_ ?_)
      | (with_reducible refine post17d HP8.out.1 HK4.out HK5.out ?_ ?_ ?_ rfl ?_)
     ·omega
     ·omega
     ·omega
     intro w9' hB9 hk9 hj9 hs9 hz9
     have HA := Lib.hid (show RfAns F (fun _ => False) (fun _ => true) false s R w (.returned (.tuple #[.agg (rfC s false q.1.pos q.1.opened (.slice ca' cl' cc') (.slice ma' ml' mc') 8 (st.pos : Int)), .agg zC])) w9' by rw [HRy.out]; exact ⟨hB9, q.1.pos, q.1.opened, _, _, .empty, none, 0, by rw [zc_empty]; rfl, ⟨_, _, _, rfl⟩, ⟨_, _, _, rfl⟩, (show (8 : Nat) ≠ 0 by decide), trx_leaf rfl, rfl⟩)
     clear x0 x1 x2 x3 x4 x5 x6 x7 y0 y1 y2 y3 y4 y5 y6 y7 hx z0 z1 z2 z3 z4 z5 z6 z7 z8 v0 v1 v2 v3 v4 v5 v6 v7 v8 hz
     obtain ⟨x0, x1, x2, x3, x4, x5, x6, x7, _⟩ := blk8 hk9
     obtain ⟨z0, z1, z2, z3, z4, z5, z6, z7, z8, _⟩ := blk9n hj9
     refine bodyPost_ret (v := .tuple #[.agg (rfC s false q.1.pos q.1.opened (.slice ca' cl' cc') (.slice ma' ml' mc') 8 (st.pos : Int)), .agg zC]) (by simp [results, Tryz.results78, go_sem, x0, x1, x2, x3, x4, x5, x6, x7, z0, z1, z2, z3, z4, z5, z6, z7, z8]) rfl ?_
     first | exact HA.out | exact HA.out.drew
   | true =>
    have hz1 := HRx.out
    simp only [if_true] at hz1
    obtain ⟨p3, hp3⟩ : ∃ p3, p3 = q.1.pos + 2 := ⟨_, rfl⟩
    have hts := HTS.out
    have Wn3 : IntKind.i64.wrap ((q.1.pos : Int) + (t.size : Int)) = (p3 : Int) := by have := HPq.out; rw [hts, IntWalk.i64_in _ (by omega)]; omega
    have HP3 := Lib.hid hp3
    have HRy := Lib.hid hz1
    clear hz1 hp3 hts
    obtain ⟨c0, c1, c2, c3, c4, c5, c6, c7, f0, f1, f2, f3, f4, f5, f6, f7, hl⟩ := blk8 HQ9b.out
    go_upto_region 15 with fail
    clear c0 c1 c2 c3 c4 c5 c6 c7 f0 f1 f2 f3 f4 f5 f6 f7 hl
    have HQ9c := Lib.hid ((HQ9b.out.set 2 (.int .i64 (p3 : Int))).eqv (cs' := #[.string s, .bool false, .int .i64 (p3 : Int), .int .i64 (q.1.opened : Int), .slice ca' cl' cc', .slice ma' ml' mc', .int .i64 0, .int .i64 0]) (by simp))
    have HQ10c := Lib.hid (HQ10b.out.same (far_set wc q9 2 (.int .i64 (p3 : Int)) (by omega)))
    have HB8 := Lib.hid (HF7.out.b.setCell (p := ⟨q9, 2, none⟩) (show w.heap.size ≤ q9 by have := HG9.out; omega) (.int .i64 (p3 : Int)))
    have HK4 := Lib.hid (HF7.out.k4.same (far_set wc q9 2 (.int .i64 (p3 : Int)) (by have := HG9.out; omega)))
    have HK5 := Lib.hid (HF7.out.k5.same (far_set wc q9 2 (.int .i64 (p3 : Int)) (by have := HG9.out; omega)))
    have HR8 : Hid (RfR (fun b => ((F b ∧ b < w.heap.size) ∨ w.heap.size + 3 ≤ b) ∧ b < q9) (wc.setCell ⟨q9, 2, none⟩ (.int .i64 (p3 : Int))) s q.1 (.slice ca' cl' cc') (.slice ma' ml' mc')) := Lib.hid (HR7.out.keep (by simp [World.setCell]) (fun b hf _ => ⟨hf, fun o => World.cell?_of_block (w := wc) (a := ⟨b, o, none⟩) (far_set _ _ _ _ (Nat.ne_of_lt hf.2))⟩))
    have HT8 : Hid (TrX (fun b => w.heap.size + 3 ≤ b ∧ b < q9) (wc.setCell ⟨q9, 2, none⟩ (.int .i64 (p3 : Int))) (unc q.2) a' cap') := Lib.hid (HT7.out.keep (by simp [World.setCell]) (fun b hf _ => ⟨hf, fun o => World.cell?_of_block (w := wc) (a := ⟨b, o, none⟩) (far_set _ _ _ _ (Nat.ne_of_lt hf.2))⟩))
    generalize wc.setCell ⟨q9, 2, none⟩ (.int .i64 (p3 : Int)) = wd at *
    obtain ⟨ai, ci, hcv, hxl, hxx⟩ := HR8.out.c
    injection hcv with hc1 hc2 hc3
    subst hc1 hc2 hc3
    obtain ⟨c0, c1, c2, c3, c4, c5, c6, c7, f0, f1, f2, f3, f4, f5, f6, f7, hl⟩ := blk8 HQ9c.out
    obtain ⟨i0, hi, hz0, hz1, hz2⟩ := rint_info
    have hcn : q.1.closed.length ≤ 250 := by have h1 := HR8.out.cl; have h2 := HR8.out.pos; have h3 := HR8.out.small; omega
    have hm1 : 0 + q.1.closed.length ≤ maxLen := by unfold maxLen; omega
    have hm2 : (0 + q.1.closed.length) * 8 ≤ 140737488355328 := by omega
    have hm3 : q.1.closed.length + 1 ≤ maxLen := by unfold maxLen; omega
    have hm4 : (q.1.closed.length + 1) * 8 ≤ 140737488355328 := by omega
    have hnews : 0 < q.1.closed.length → ∃ a, ca' = some a ∧ ∀ j u, (q.1.closed.map (Value.int .i64))[j]? = some u → (wd.alloc (.cells #[] 3)).cell? (a.add j) = some u := fun h0 => by
     obtain ⟨g, e, _, hg, hx⟩ := hxx h0
     refine ⟨_, e, fun j u hu => ?_⟩
     rw [Go.WideShapes.add_plain, Nat.zero_add]
     exact (((Below.refl wd.heap.size wd).alloc (Nat.le_refl _) (.cells #[] 3)).cell (p := ⟨g, j, none⟩) hg).trans (hx j u hu)
    have hv0 : ∀ u ∈ q.1.closed.map (Value.int .i64), u.oneCell' = true := by
     intro u hu
     obtain ⟨x, _, rfl⟩ := List.mem_map.1 hu
     rfl
    have HNw := Lib.hid hnews
    clear hnews hxx
    go_wp2_with (first
     | (at_builtin; refine wpList_append_any _ rfl _ _ 85 rfl wd.heap.size 3 i0 (.int .i64 0) 1 8 Tryz.underlying85 hi hz0 hz1 hz2 rfl (by decide) (.slice (some ⟨wd.heap.size, 0, none⟩) 0 0) 0 [] rfl (own_empty wd 3 1 wd.heap.size rfl (Nat.le_refl _)) ca' q.1.closed.length cc' (q.1.closed.map (Value.int .i64)) rfl hxl HNw.out hv0 hm1 hm2 (by simp) ?_; intro v6 w6 hown6 hgrow6 hat6; rw [Nat.zero_add, List.nil_append] at hown6; have HB6 : Hid (Below wd.heap.size wd w6) := Lib.hid (Below.grown (w := _) ((Below.refl wd.heap.size wd).alloc (Nat.le_refl _) _) hgrow6 (by simp) (fun k hk => by simp [Value.ownBlock] at hk; omega)); obtain ⟨a6, k6, hv6⟩ := own_form' hown6; subst hv6; have HO6 := Lib.hid hown6; have hB6 := HQ9c.out.below HB6.out HQ9c.out.lt; clear c0 c1 c2 c3 c4 c5 c6 c7 f0 f1 f2 f3 f4 f5 f6 f7 hl hown6 hgrow6 hat6; obtain ⟨c0, c1, c2, c3, c4, c5, c6, c7, f0, f1, f2, f3, f4, f5, f6, f7, hl⟩ := blk8 hB6; clear hB6)
     | (at_builtin; refine wpList_append_any _ rfl _ _ 85 rfl wd.heap.size 3 i0 (.int .i64 0) 1 8 Tryz.underlying85 hi hz0 hz1 hz2 rfl (by decide) _ q.1.closed.length (q.1.closed.map (Value.int .i64)) rfl (nd_own_below HO6.out ((Below.refl _ _).alloc (Nat.le_refl _) _)) (some ⟨w6.heap.size, 0, none⟩) 1 1 [.int .i64 (o1 : Int)] rfl rfl (fun _ => ⟨_, rfl, cell_one_at rfl _ _⟩) (by intro y hy; simp at hy; subst hy; rfl) hm3 hm4 (by have := HB6.out.size; simp; omega) ?_; intro v7 w7 hown7 hgrow7 hat7; have HB7 : Hid (Below wd.heap.size wd w7) := Lib.hid (Below.grown (w := _) (HB6.out.alloc HB6.out.size _) hgrow7 (by have := HB6.out.size; simp; omega) (fun k hk => own_of HO6.out k hk)); obtain ⟨a7, k7, hv7⟩ := own_form' hown7; subst hv7; have HO7 := Lib.hid hown7; have hB7 := HQ9c.out.below HB7.out HQ9c.out.lt; clear c0 c1 c2 c3 c4 c5 c6 c7 f0 f1 f2 f3 f4 f5 f6 f7 hl hown7 hgrow7 hat7; obtain ⟨c0, c1, c2, c3, c4, c5, c6, c7, f0, f1, f2, f3, f4, f5, f6, f7, hl⟩ := blk8 hB7; clear hB7))
    clear c0 c1 c2 c3 c4 c5 c6 c7 f0 f1 f2 f3 f4 f5 f6 f7 hl
    have hq93 := HG9.out
    have hdq := HQ9c.out.lt
    have hO7 := HO7.out
    rw [show q.1.closed.map (Value.int .i64) ++ [.int .i64 (o1 : Int)] = (q.1.closed ++ [(o1 : Int)]).map (Value.int .i64) by rw [List.map_append]; rfl] at hO7
    have hc7 := ints_row hO7
    have HQ9d := Lib.hid (((HQ9c.out.below HB7.out HQ9c.out.lt).set 4 (.slice a7 (q.1.closed.length + 1) k7)).eqv (cs' := #[.string s, .bool false, .int .i64 (p3 : Int), .int .i64 (q.1.opened : Int), .slice a7 (q.1.closed.length + 1) k7, .slice ma' ml' mc', .int .i64 0, .int .i64 0]) (by simp))
    have HQ10d := Lib.hid ((HQ10c.out.below HB7.out HQ10c.out.lt).same (far_set w7 q9 4 (.slice a7 (q.1.closed.length + 1) k7) (by omega)))
    have HB9 := Lib.hid ((HB8.out.trans (HB7.out.mono HB8.out.size)).setCell (p := ⟨q9, 4, none⟩) (show w.heap.size ≤ q9 by omega) (.slice a7 (q.1.closed.length + 1) k7))
    have HK4d := Lib.hid ((HK4.out.below HB7.out HK4.out.lt).same (far_set w7 q9 4 (.slice a7 (q.1.closed.length + 1) k7) (by omega)))
    have HK5d := Lib.hid ((HK5.out.below HB7.out HK5.out.lt).same (far_set w7 q9 4 (.slice a7 (q.1.closed.length + 1) k7) (by omega)))
    have HR9 : Hid (RfR (fun b => ((F b ∧ b < w.heap.size) ∨ w.heap.size + 3 ≤ b) ∧ b < q9) (w7.setCell ⟨q9, 4, none⟩ (.slice a7 (q.1.closed.length + 1) k7)) s q.1 (.slice ca' q.1.closed.length cc') (.slice ma' ml' mc')) := Lib.hid ((HR8.out.below HB7.out).keep (by simp [World.setCell]) (fun b hf _ => ⟨hf, fun o => World.cell?_of_block (w := w7) (a := ⟨b, o, none⟩) (far_set _ _ _ _ (Nat.ne_of_lt hf.2))⟩))
    have HT9 : Hid (TrX (fun b => w.heap.size + 3 ≤ b ∧ b < q9) (w7.setCell ⟨q9, 4, none⟩ (.slice a7 (q.1.closed.length + 1) k7)) (unc q.2) a' cap') := Lib.hid ((HT8.out.below HB7.out).keep (by simp [World.setCell]) (fun b hf _ => ⟨hf, fun o => World.cell?_of_block (w := w7) (a := ⟨b, o, none⟩) (far_set _ _ _ _ (Nat.ne_of_lt hf.2))⟩))
    have HC9 : Hid (RowC (fun b => q9 ≤ b) (w7.setCell ⟨q9, 4, none⟩ (.slice a7 (q.1.closed.length + 1) k7)) 1 (.slice a7 (q.1.closed.length + 1) k7) (q.1.closed.length + 1) ((q.1.closed ++ [(o1 : Int)]).map (Value.int .i64))) := Lib.hid (hc7.keep (by simp [World.setCell]) (fun b hf _ => ⟨by omega, fun o => World.cell?_of_block (w := w7) (a := ⟨b, o, none⟩) (far_set _ _ _ _ (Nat.ne_of_gt (Nat.lt_of_lt_of_le hdq hf)))⟩))
    clear hO7 hc7 hdq
    generalize w7.setCell ⟨q9, 4, none⟩ (.slice a7 (q.1.closed.length + 1) k7) = we at *
    have HSS := Lib.hid (C17.of HQ9d.out HQ10d.out)
    have hq1 := HQ9d.out.lt
    have hq2 := HQ10d.out.lt
    have hn1 : q9 ≠ w.heap.size + 1 := by omega
    have hn2 : q9 + 1 ≠ w.heap.size + 1 := by omega
    have hn3 : q9 ≠ w.heap.size + 1 + 1 := by omega
    have hn4 : q9 + 1 ≠ w.heap.size + 1 + 1 := by omega
    obtain ⟨W5, hW5⟩ : ∃ W5, we.alloc (.cells #[.int .i64 (unc q.2).kind, .int .u64 (ow (unc q.2).set 0), .int .u64 (ow (unc q.2).set 1), .int .u64 (ow (unc q.2).set 2), .int .u64 (ow (unc q.2).set 3), .slice a' (unc q.2).parts.length cap', .int .i64 (unc q.2).mn, .int .i64 (unc q.2).mx, .int .i64 (unc q.2).num] 36) = W5 := ⟨_, rfl⟩
    have HWe := Lib.hid hW5
    have HBf : Hid (Below w.heap.size w W5) := Lib.hid (by rw [← hW5]; exact HB9.out.alloc HB9.out.size _)
    have HKf : Hid (Blk W5 (w.heap.size + 1) rfZ 87) := Lib.hid (by rw [← hW5]; exact HK4d.out.alloc _)
    have HJf : Hid (Blk W5 (w.heap.size + 1 + 1) zC 36) := Lib.hid (by rw [← hW5]; exact HK5d.out.alloc _)
    have HSS5 := Lib.hid (HSS.out.alloc (.cells (tC (unc q.2) a' cap') 36) hq1 hq2)
    rw [hW5] at HSS5
    have hX5 := put8_alloc we (.cells #[.int .i64 (unc q.2).kind, .int .u64 (ow (unc q.2).set 0), .int .u64 (ow (unc q.2).set 1), .int .u64 (ow (unc q.2).set 2), .int .u64 (ow (unc q.2).set 3), .slice a' (unc q.2).parts.length cap', .int .i64 (unc q.2).mn, .int .i64 (unc q.2).mx, .int .i64 (unc q.2).num] 36) (w.heap.size + 1) (.string s) (.bool false) (.int .i64 (p3 : Int)) (.int .i64 (q.1.opened : Int)) (.slice a7 (q.1.closed.length + 1) k7) (.slice ma' ml' mc') (.int .i64 0) (.int .i64 0) HK4d.out.lt
    rw [hW5] at hX5
    obtain ⟨r0, r1, r2, r3, r4, r5, r6, r7, s0, s1, s2, s3, s4, s5, s6, s7, hrs⟩ := blk8 HK4d.out
    obtain ⟨x0, x1, x2, x3, x4, x5, x6, x7, y0, y1, y2, y3, y4, y5, y6, y7, hx⟩ := blk8 HKf.out
    obtain ⟨z0, z1, z2, z3, z4, z5, z6, z7, z8, v0, v1, v2, v3, v4, v5, v6, v7, v8, hz⟩ := blk9n HJf.out
    go_region_held3 (fun w' => C17 w' q9 (q9 + 1) (.string s) (.bool false) (.int .i64 (p3 : Int)) (.int .i64 (q.1.opened : Int)) (.slice a7 (q.1.closed.length + 1) k7) (.slice ma' ml' mc') (.int .i64 0) (.int .i64 0) (.int .i64 (unc q.2).kind) (.int .u64 (ow (unc q.2).set 0)) (.int .u64 (ow (unc q.2).set 1)) (.int .u64 (ow (unc q.2).set 2)) (.int .u64 (ow (unc q.2).set 3)) (.slice a' (unc q.2).parts.length cap') (.int .i64 (unc q.2).mn) (.int .i64 (unc q.2).mx) (.int .i64 (unc q.2).num))
     (first | (with_reducible exact C17.drew HSS.out) | (with_reducible exact HSS5.out) | (with_reducible exact C17.drew HSS5.out) | (with_reducible exact C17.drew (C17.put8 HSS5.out hn1 hn2)) | (with_reducible exact C17.drew (C17.put9 (C17.put8 HSS5.out hn1 hn2) hn3 hn4)) | (with_reducible exact C17.put8 HSS5.out hn1 hn2) | (with_reducible exact C17.put9 (C17.put8 HSS5.out hn1 hn2) hn3 hn4) | (with_reducible exact C17.drew (C17.put8 HSS.out hn1 hn2)) | (with_reducible exact C17.put8 HSS.out hn1 hn2))
     (fail)
    all_goals
     go_wp2_with fail
     first
      | (with_reducible refine post17 HBf.out HKf.out HJf.out ?_ ?_ ?_ ?_)
      | (with_reducible refine post17d HBf.out HKf.out HJf.out ?_ ?_ ?_ rfl ?_)
     ·omega
     ·omega
     ·omega
     intro w9 hB9 hk9 hj9 hs9 hz9
     have hA := grp_ans (w := w) (ere := false) (s := s) (F := F) (R := R) (p3 := p3) (by rw [HP3.out]; exact HRy.out) hq93 (Nat.le_of_lt hq1) rfl HC9.out HR9.out HT9.out (by have := HP3.out; omega) (by have := HP3.out; have := HOl.out trivial; omega) hB9 (by rw [HWe.out]; exact hs9) (by rw [HWe.out]; exact hz9)
     rw [tc_group] at hA
     have HA := Lib.hid hA
     clear x0 x1 x2 x3 x4 x5 x6 x7 y0 y1 y2 y3 y4 y5 y6 y7 hx z0 z1 z2 z3 z4 z5 z6 z7 z8 v0 v1 v2 v3 v4 v5 v6 v7 v8 hz hA hX5 hW5
     obtain ⟨x0, x1, x2, x3, x4, x5, x6, x7, _⟩ := blk8 hk9
     obtain ⟨z0, z1, z2, z3, z4, z5, z6, z7, z8, _⟩ := blk9n hj9
     refine bodyPost_ret (v := .tuple #[.agg (rfC s false p3 q.1.opened (.slice a7 (q.1.closed.length + 1) k7) (.slice ma' ml' mc') 0 0), .agg #[.int .i64 5, .int .u64 0, .int .u64 0, .int .u64 0, .int .u64 0, .slice (some ⟨we.heap.size, 0, none⟩) 1 1, .int .i64 0, .int .i64 0, .int .i64 (o1 : Int)]]) (by simp [results, Tryz.results78, go_sem, x0, x1, x2, x3, x4, x5, x6, x7, z0, z1, z2, z3, z4, z5, z6, z7, z8]) rfl ?_
     first | exact HA.out | exact HA.out.drew
end Go.Proofs.YtkejeiopfblkgaaGreatDoor
