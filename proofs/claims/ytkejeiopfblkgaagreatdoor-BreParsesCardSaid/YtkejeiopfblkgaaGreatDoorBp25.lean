/- The proof's texts RfGF: what the claim reaches of them. -/
import Derived.Test.YtkejeiopfblkgaaGreatDoorBp21
import Derived.Test.YtkejeiopfblkgaaGreatDoorBp15
import Derived.Test.YtkejeiopfblkgaaGreatDoorBp24
namespace Go.Proofs.YtkejeiopfblkgaaGreatDoor
open Go Go.RowKit
set_option linter.unusedSimpArgs false in
set_option maxRecDepth 100000 in
set_option maxHeartbeats 40000000 in
theorem ratom_f_shut (hMk : RMarkOk) {F : Nat → Prop} {s : ByteArray} {st : ReSt} {cv mv : Value} (w : World) (dp : Nat) (sub : Option (ReSt → ReRes (ReSt × Nd))) (hR : RfR F w s st cv mv) (hlt : st.pos < s.size) (h40 : opAt false s.data.toList st.pos 40 = false) (h41 : opAt false s.data.toList st.pos 41 = true) :
  Calls Tryz.prog 78 #[.agg (rfC s false st.pos st.opened cv mv 0 0), .int .i64 (dp : Int)] w (RfAns F (fun _ => False) (fun _ => true) false s (atomM false s.data.toList sub st) w) := by
 obtain ⟨R, hR0⟩ : ∃ R, R = atomM false s.data.toList sub st := ⟨_, rfl⟩
 rw [← hR0]
 obtain ⟨ca, cl, cc, rfl⟩ := hR.c.form
 obtain ⟨ma, ml, mc, rfl⟩ := hR.m.form
 have hsm := hR.small
 have H0 := Lib.hid (Fr.begin (ere := false) hR)
 have HR0 := Lib.hid hR0
 have HMk := Lib.hid hMk
 have HLt := Lib.hid (show st.pos < s.size ∧ s.size ≤ 250 from ⟨hlt, hsm⟩)
 have HSg := Lib.hid (fun w => rsign_any s false st.pos st.opened (.slice ca cl cc) (.slice ma ml mc) 0 0 st.pos w (by omega))
 have HOp := Lib.hid (fun (b : UInt8) w => rop_f s st.pos st.opened (.slice ca cl cc) (.slice ma ml mc) 0 0 b w)
 have HOne := Lib.hid (fun (t : OSet) w => rone_c t w)
 clear hR hR0 hMk hlt hsm
 go_enter Tryz.func78, Tryz.ntmps78
 go_upto_region 1 with fail
 have HF1 := Lib.hid H0.out
 generalize ((w.alloc (.cells (rfC s false st.pos st.opened (.slice ca cl cc) (.slice ma ml mc) 0 0) 87)).alloc (.cells rfZ 87)).alloc (.cells zC 36) = w1 at *
 obtain ⟨c0, c1, c2, c3, c4, c5, c6, c7, f0, f1, f2, f3, f4, f5, f6, f7, hl⟩ := blk8 HF1.out.k2
 go_wp2_with fail
 with_reducible refine (HSg.out _).mono ?_
 rintro e w2 ⟨t, rfl, ht, b2⟩
 have HF2 := Lib.hid (HF1.out.step b2)
 clear b2
 clear c0 c1 c2 c3 c4 c5 c6 c7 f0 f1 f2 f3 f4 f5 f6 f7 hl
 obtain ⟨c0, c1, c2, c3, c4, c5, c6, c7, f0, f1, f2, f3, f4, f5, f6, f7, hl⟩ := blk8 HF2.out.k2
 have HRx := Lib.hid (show R = .error (8, st.pos) by rw [HR0.out]; unfold atomM; rw [h40, h41]; rfl)
 obtain ⟨n0, n0'⟩ := sgn_no_es ht 40 h40
 have e1 := (sgn_es ht 41).2 h41
 clear h40 h41 ht
 go_wp2_with fail
 with_reducible refine (HOp.out _ _).mono ?_
 rintro e w3 ⟨rfl, b3⟩
 have HF3 := Lib.hid (HF2.out.step b3)
 clear b3
 clear c0 c1 c2 c3 c4 c5 c6 c7 f0 f1 f2 f3 f4 f5 f6 f7 hl
 obtain ⟨c0, c1, c2, c3, c4, c5, c6, c7, f0, f1, f2, f3, f4, f5, f6, f7, hl⟩ := blk8 HF3.out.k2
 go_wp2_with fail
 with_reducible refine (HOp.out _ _).mono ?_
 rintro e w4 ⟨rfl, b4⟩
 have HF4 := Lib.hid (HF3.out.step b4)
 clear b4
 clear c0 c1 c2 c3 c4 c5 c6 c7 f0 f1 f2 f3 f4 f5 f6 f7 hl
 obtain ⟨c0, c1, c2, c3, c4, c5, c6, c7, f0, f1, f2, f3, f4, f5, f6, f7, hl⟩ := blk8 HF4.out.k2
 have HFl := Lib.hid (fun w => rfail_any s false st.pos st.opened (.slice ca cl cc) (.slice ma ml mc) 8 (st.pos : Int) w ⟨_, _, _, rfl⟩ ⟨_, _, _, rfl⟩)
 go_wp2_with fail
 with_reducible refine (HFl.out _).mono ?_
 rintro e w5 ⟨rfl, b5⟩
 have HF5 := Lib.hid (HF4.out.step b5)
 clear b5
 clear c0 c1 c2 c3 c4 c5 c6 c7 f0 f1 f2 f3 f4 f5 f6 f7 hl
 obtain ⟨x0, x1, x2, x3, x4, x5, x6, x7, y0, y1, y2, y3, y4, y5, y6, y7, hx⟩ := blk8 HF5.out.k4; obtain ⟨z0, z1, z2, z3, z4, z5, z6, z7, z8, v0, v1, v2, v3, v4, v5, v6, v7, v8, hz⟩ := blk9n HF5.out.k5
 all_goals
  go_wp2_with fail
  first
   | (with_reducible refine post17 HF5.out.b HF5.out.k4 HF5.out.k5 ?_ ?_ ?_ ?_)
   | (with_reducible refine post17d HF5.out.b HF5.out.k4 HF5.out.k5 ?_ ?_ ?_ rfl ?_)
  ·omega
  ·omega
  ·omega
  intro w9 hB9 hk9 hj9 hs9 hz9
  have HA := Lib.hid (HF5.out.err (FT := fun _ => False) (C := fun _ => true) HRx.out rfl (show (8 : Nat) ≠ 0 by decide) hB9)
  clear x0 x1 x2 x3 x4 x5 x6 x7 y0 y1 y2 y3 y4 y5 y6 y7 hx z0 z1 z2 z3 z4 z5 z6 z7 z8 v0 v1 v2 v3 v4 v5 v6 v7 v8 hz
  obtain ⟨x0, x1, x2, x3, x4, x5, x6, x7, _⟩ := blk8 hk9
  obtain ⟨z0, z1, z2, z3, z4, z5, z6, z7, z8, _⟩ := blk9n hj9
  refine bodyPost_ret (v := .tuple #[.agg (rfC s false st.pos st.opened (.slice ca cl cc) (.slice ma ml mc) 8 (st.pos : Int)), .agg zC]) (by simp [results, Tryz.results78, go_sem, x0, x1, x2, x3, x4, x5, x6, x7, z0, z1, z2, z3, z4, z5, z6, z7, z8]) rfl ?_
  first | exact HA.out | exact HA.out.drew
set_option linter.unusedSimpArgs false in
set_option maxRecDepth 100000 in
set_option maxHeartbeats 40000000 in
theorem ratom_f_dot (hMk : RMarkOk) {F : Nat → Prop} {s : ByteArray} {st : ReSt} {cv mv : Value} (w : World) (dp : Nat) (sub : Option (ReSt → ReRes (ReSt × Nd))) (hR : RfR F w s st cv mv) (hlt : st.pos < s.size) (h40 : opAt false s.data.toList st.pos 40 = false) (h41 : opAt false s.data.toList st.pos 41 = false) (h46 : chAt s.data.toList st.pos 46 = true) :
  Calls Tryz.prog 78 #[.agg (rfC s false st.pos st.opened cv mv 0 0), .int .i64 (dp : Int)] w (RfAns F (fun _ => False) (fun _ => true) false s (atomM false s.data.toList sub st) w) := by
 obtain ⟨R, hR0⟩ : ∃ R, R = atomM false s.data.toList sub st := ⟨_, rfl⟩
 rw [← hR0]
 obtain ⟨ca, cl, cc, rfl⟩ := hR.c.form
 obtain ⟨ma, ml, mc, rfl⟩ := hR.m.form
 have hsm := hR.small
 have H0 := Lib.hid (Fr.begin (ere := false) hR)
 have HR0 := Lib.hid hR0
 have HMk := Lib.hid hMk
 have HLt := Lib.hid (show st.pos < s.size ∧ s.size ≤ 250 from ⟨hlt, hsm⟩)
 have HSg := Lib.hid (fun w => rsign_any s false st.pos st.opened (.slice ca cl cc) (.slice ma ml mc) 0 0 st.pos w (by omega))
 have HOp := Lib.hid (fun (b : UInt8) w => rop_f s st.pos st.opened (.slice ca cl cc) (.slice ma ml mc) 0 0 b w)
 have HOne := Lib.hid (fun (t : OSet) w => rone_c t w)
 clear hR hR0 hMk hlt hsm
 go_enter Tryz.func78, Tryz.ntmps78
 go_upto_region 1 with fail
 have HF1 := Lib.hid H0.out
 generalize ((w.alloc (.cells (rfC s false st.pos st.opened (.slice ca cl cc) (.slice ma ml mc) 0 0) 87)).alloc (.cells rfZ 87)).alloc (.cells zC 36) = w1 at *
 obtain ⟨c0, c1, c2, c3, c4, c5, c6, c7, f0, f1, f2, f3, f4, f5, f6, f7, hl⟩ := blk8 HF1.out.k2
 go_wp2_with fail
 with_reducible refine (HSg.out _).mono ?_
 rintro e w2 ⟨t, rfl, ht, b2⟩
 have HF2 := Lib.hid (HF1.out.step b2)
 clear b2
 clear c0 c1 c2 c3 c4 c5 c6 c7 f0 f1 f2 f3 f4 f5 f6 f7 hl
 obtain ⟨c0, c1, c2, c3, c4, c5, c6, c7, f0, f1, f2, f3, f4, f5, f6, f7, hl⟩ := blk8 HF2.out.k2
 have h91 : chAt s.data.toList st.pos 91 = false := ch_no (by rw [(ch_byt h46).2]; decide)
 obtain ⟨p2, hp2⟩ : ∃ p2, p2 = st.pos + 1 := ⟨_, rfl⟩
 have Wp : IntKind.i64.wrap ((st.pos : Int) + 1) = (p2 : Int) := by have := HLt.out; rw [IntWalk.i64_in _ (by omega)]; omega
 have HP2 := Lib.hid (show p2 = st.pos + 1 ∧ p2 ≤ s.size ∧ s.size ≤ 250 by have := HLt.out; omega)
 clear hp2
 have HRx := Lib.hid (show R = .ok (⟨p2, st.opened, st.closed, st.marks⟩, .one (oSpan 0 255)) by rw [HR0.out, HP2.out.1]; unfold atomM; rw [h40, h41, h91, h46]; rfl)
 have e1 := (sgn_ch ht 46 (by decide)).2 h46
 clear h40 h41 h46 h91 ht
 have HSp := Lib.hid (fun w => rspan_any 0 255 w (by decide) (by decide) (by decide) (by decide))
 go_wp2_with fail
 with_reducible refine (HOp.out _ _).mono ?_
 rintro e w3 ⟨rfl, b3⟩
 have HF3 := Lib.hid (HF2.out.step b3)
 clear b3
 clear c0 c1 c2 c3 c4 c5 c6 c7 f0 f1 f2 f3 f4 f5 f6 f7 hl
 obtain ⟨c0, c1, c2, c3, c4, c5, c6, c7, f0, f1, f2, f3, f4, f5, f6, f7, hl⟩ := blk8 HF3.out.k2
 go_wp2_with fail
 with_reducible refine (HOp.out _ _).mono ?_
 rintro e w4 ⟨rfl, b4⟩
 have HF4 := Lib.hid (HF3.out.step b4)
 clear b4
 clear c0 c1 c2 c3 c4 c5 c6 c7 f0 f1 f2 f3 f4 f5 f6 f7 hl
 obtain ⟨c0, c1, c2, c3, c4, c5, c6, c7, f0, f1, f2, f3, f4, f5, f6, f7, hl⟩ := blk8 HF4.out.k2
 go_upto_region 27 with fail
 have HFx : Hid (Fr F w s false (w4.setCell ⟨w.heap.size, 2, none⟩ (.int .i64 (p2 : Int))) ⟨p2, st.opened, st.closed, st.marks⟩ (.slice ca cl cc) (.slice ma ml mc)) := Lib.hid (HF4.out.to p2 (by have := HP2.out; omega) (by have := HP2.out; omega))
 clear c0 c1 c2 c3 c4 c5 c6 c7 f0 f1 f2 f3 f4 f5 f6 f7 hl
 generalize w4.setCell ⟨w.heap.size, 2, none⟩ (.int .i64 (p2 : Int)) = W at *
 have HSS := Lib.hid (C8.of HFx.out.k2)
 have hn1 : w.heap.size ≠ w.heap.size + 1 := by omega
 have hn3 : w.heap.size ≠ w.heap.size + 1 + 1 := by omega
 go_region_held3 (fun w' => C8 w' w.heap.size (.string s) (.bool false) (.int .i64 (p2 : Int)) (.int .i64 (st.opened : Int)) (.slice ca cl cc) (.slice ma ml mc) (.int .i64 0) (.int .i64 0))
  (first | (with_reducible exact C8.of HL31.out.k2) | (with_reducible exact C8.of HL30.out.k2) | (with_reducible exact C8.drew HSS.out) | (with_reducible exact C8.put8 (by assumption) hn1) | (with_reducible exact C8.put9 (by assumption) hn3))
  (first | (go_at_call 92; refine (HOne.out _ _).mono ?_; rintro e w31 ⟨rfl, b31⟩; have hL31 := (by first | exact HL30.out.step b31 | exact (HL30.out.step (Below.refl _ _).drew).step b31 : Fr F w s false w31 ⟨p2, st.opened, st.closed, st.marks⟩ (.slice ca cl cc) (.slice ma ml mc)); have HL31 := Lib.hid hL31; clear b31; obtain ⟨x0, x1, x2, x3, x4, x5, x6, x7, y0, y1, y2, y3, y4, y5, y6, y7, hx⟩ := blk8 hL31.k4; obtain ⟨z0, z1, z2, z3, z4, z5, z6, z7, z8, v0, v1, v2, v3, v4, v5, v6, v7, v8, hz⟩ := blk9n hL31.k5; clear hL31) | (go_at_call 93; refine (HSp.out _).mono ?_; rintro e w30 ⟨rfl, b30⟩; have hL30 := (by first | exact HFx.out.step b30 | exact (HFx.out.step (Below.refl _ _).drew).step b30 : Fr F w s false w30 ⟨p2, st.opened, st.closed, st.marks⟩ (.slice ca cl cc) (.slice ma ml mc)); have HL30 := Lib.hid hL30; clear b30; clear hL30))
 all_goals
  go_wp2_with fail
  first
   | (with_reducible refine post17 HL31.out.b HL31.out.k4 HL31.out.k5 ?_ ?_ ?_ ?_)
   | (with_reducible refine post17d HL31.out.b HL31.out.k4 HL31.out.k5 ?_ ?_ ?_ rfl ?_)
  ·omega
  ·omega
  ·omega
  intro w9 hB9 hk9 hj9 hs9 hz9
  have HA := Lib.hid (HL31.out.ok (FT := fun _ => False) (C := fun _ => true) (d := .one (oSpan 0 255)) HRx.out (trx_leaf rfl) hB9 hs9 hz9)
  clear x0 x1 x2 x3 x4 x5 x6 x7 y0 y1 y2 y3 y4 y5 y6 y7 hx z0 z1 z2 z3 z4 z5 z6 z7 z8 v0 v1 v2 v3 v4 v5 v6 v7 v8 hz
  obtain ⟨x0, x1, x2, x3, x4, x5, x6, x7, _⟩ := blk8 hk9
  obtain ⟨z0, z1, z2, z3, z4, z5, z6, z7, z8, _⟩ := blk9n hj9
  refine bodyPost_ret (v := .tuple #[.agg (rfC s false p2 st.opened (.slice ca cl cc) (.slice ma ml mc) 0 0), .agg (tC (unc (.one (oSpan 0 255))) none 0)]) (by simp [results, Tryz.results78, go_sem, x0, x1, x2, x3, x4, x5, x6, x7, z0, z1, z2, z3, z4, z5, z6, z7, z8]) rfl ?_
  first | exact HA.out | exact HA.out.drew
set_option linter.unusedSimpArgs false in
set_option maxRecDepth 100000 in
set_option maxHeartbeats 40000000 in
theorem ratom_f_tail (hMk : RMarkOk) {F : Nat → Prop} {s : ByteArray} {st : ReSt} {cv mv : Value} (w : World) (dp : Nat) (sub : Option (ReSt → ReRes (ReSt × Nd))) (hR : RfR F w s st cv mv) (hlt : st.pos < s.size) (h40 : opAt false s.data.toList st.pos 40 = false) (h41 : opAt false s.data.toList st.pos 41 = false) (h92 : byt s.data.toList st.pos = 92) (h1 : ¬ st.pos + 1 < s.data.toList.length) :
  Calls Tryz.prog 78 #[.agg (rfC s false st.pos st.opened cv mv 0 0), .int .i64 (dp : Int)] w (RfAns F (fun _ => False) (fun _ => true) false s (atomM false s.data.toList sub st) w) := by
 obtain ⟨R, hR0⟩ : ∃ R, R = atomM false s.data.toList sub st := ⟨_, rfl⟩
 rw [← hR0]
 obtain ⟨ca, cl, cc, rfl⟩ := hR.c.form
 obtain ⟨ma, ml, mc, rfl⟩ := hR.m.form
 have hsm := hR.small
 have H0 := Lib.hid (Fr.begin (ere := false) hR)
 have HR0 := Lib.hid hR0
 have HMk := Lib.hid hMk
 have HLt := Lib.hid (show st.pos < s.size ∧ s.size ≤ 250 from ⟨hlt, hsm⟩)
 have HSg := Lib.hid (fun w => rsign_any s false st.pos st.opened (.slice ca cl cc) (.slice ma ml mc) 0 0 st.pos w (by omega))
 have HOp := Lib.hid (fun (b : UInt8) w => rop_f s st.pos st.opened (.slice ca cl cc) (.slice ma ml mc) 0 0 b w)
 have HOne := Lib.hid (fun (t : OSet) w => rone_c t w)
 clear hR hR0 hMk hlt hsm
 go_enter Tryz.func78, Tryz.ntmps78
 go_upto_region 1 with fail
 have HF1 := Lib.hid H0.out
 generalize ((w.alloc (.cells (rfC s false st.pos st.opened (.slice ca cl cc) (.slice ma ml mc) 0 0) 87)).alloc (.cells rfZ 87)).alloc (.cells zC 36) = w1 at *
 obtain ⟨c0, c1, c2, c3, c4, c5, c6, c7, f0, f1, f2, f3, f4, f5, f6, f7, hl⟩ := blk8 HF1.out.k2
 go_wp2_with fail
 with_reducible refine (HSg.out _).mono ?_
 rintro e w2 ⟨t, rfl, ht, b2⟩
 have HF2 := Lib.hid (HF1.out.step b2)
 clear b2
 clear c0 c1 c2 c3 c4 c5 c6 c7 f0 f1 f2 f3 f4 f5 f6 f7 hl
 obtain ⟨c0, c1, c2, c3, c4, c5, c6, c7, f0, f1, f2, f3, f4, f5, f6, f7, hl⟩ := blk8 HF2.out.k2
 have h91 : chAt s.data.toList st.pos 91 = false := ch_no (by rw [h92]; decide)
 have h46 : chAt s.data.toList st.pos 46 = false := ch_no (by rw [h92]; decide)
 have h9 : chAt s.data.toList st.pos 92 = true := by unfold chAt; rw [decide_eq_true (by have := HLt.out; simp; omega), decide_eq_true h92]; rfl
 have HRx := Lib.hid (show R = .error (11, st.pos) by rw [HR0.out]; unfold atomM; rw [h40, h41, h91, h46, h9, if_neg h1]; rfl)
 have e1 : t.toList = [92] := by
  rw [ByteArray.toList_eq, ht]
  unfold signL
  rw [if_neg (by have := HLt.out; simp; omega), if_neg (fun x => h1 x.2)]
  congr 1
  rw [← UInt8.toNat_inj]
  exact h92
 clear h40 h41 h46 h91 h9 h92 h1 ht
 go_wp2_with fail
 with_reducible refine (HOp.out _ _).mono ?_
 rintro e w3 ⟨rfl, b3⟩
 have HF3 := Lib.hid (HF2.out.step b3)
 clear b3
 clear c0 c1 c2 c3 c4 c5 c6 c7 f0 f1 f2 f3 f4 f5 f6 f7 hl
 obtain ⟨c0, c1, c2, c3, c4, c5, c6, c7, f0, f1, f2, f3, f4, f5, f6, f7, hl⟩ := blk8 HF3.out.k2
 go_wp2_with fail
 with_reducible refine (HOp.out _ _).mono ?_
 rintro e w4 ⟨rfl, b4⟩
 have HF4 := Lib.hid (HF3.out.step b4)
 clear b4
 clear c0 c1 c2 c3 c4 c5 c6 c7 f0 f1 f2 f3 f4 f5 f6 f7 hl
 obtain ⟨c0, c1, c2, c3, c4, c5, c6, c7, f0, f1, f2, f3, f4, f5, f6, f7, hl⟩ := blk8 HF4.out.k2
 have HFl := Lib.hid (fun w => rfail_any s false st.pos st.opened (.slice ca cl cc) (.slice ma ml mc) 11 (st.pos : Int) w ⟨_, _, _, rfl⟩ ⟨_, _, _, rfl⟩)
 go_wp2_with fail
 with_reducible refine (HFl.out _).mono ?_
 rintro e w5 ⟨rfl, b5⟩
 have HF5 := Lib.hid (HF4.out.step b5)
 clear b5
 clear c0 c1 c2 c3 c4 c5 c6 c7 f0 f1 f2 f3 f4 f5 f6 f7 hl
 obtain ⟨x0, x1, x2, x3, x4, x5, x6, x7, y0, y1, y2, y3, y4, y5, y6, y7, hx⟩ := blk8 HF5.out.k4; obtain ⟨z0, z1, z2, z3, z4, z5, z6, z7, z8, v0, v1, v2, v3, v4, v5, v6, v7, v8, hz⟩ := blk9n HF5.out.k5
 all_goals
  go_wp2_with fail
  first
   | (with_reducible refine post17 HF5.out.b HF5.out.k4 HF5.out.k5 ?_ ?_ ?_ ?_)
   | (with_reducible refine post17d HF5.out.b HF5.out.k4 HF5.out.k5 ?_ ?_ ?_ rfl ?_)
  ·omega
  ·omega
  ·omega
  intro w9 hB9 hk9 hj9 hs9 hz9
  have HA := Lib.hid (HF5.out.err (FT := fun _ => False) (C := fun _ => true) HRx.out rfl (show (11 : Nat) ≠ 0 by decide) hB9)
  clear x0 x1 x2 x3 x4 x5 x6 x7 y0 y1 y2 y3 y4 y5 y6 y7 hx z0 z1 z2 z3 z4 z5 z6 z7 z8 v0 v1 v2 v3 v4 v5 v6 v7 v8 hz
  obtain ⟨x0, x1, x2, x3, x4, x5, x6, x7, _⟩ := blk8 hk9
  obtain ⟨z0, z1, z2, z3, z4, z5, z6, z7, z8, _⟩ := blk9n hj9
  refine bodyPost_ret (v := .tuple #[.agg (rfC s false st.pos st.opened (.slice ca cl cc) (.slice ma ml mc) 11 (st.pos : Int)), .agg zC]) (by simp [results, Tryz.results78, go_sem, x0, x1, x2, x3, x4, x5, x6, x7, z0, z1, z2, z3, z4, z5, z6, z7, z8]) rfl ?_
  first | exact HA.out | exact HA.out.drew
set_option linter.unusedSimpArgs false in
set_option maxRecDepth 100000 in
set_option maxHeartbeats 40000000 in
theorem ratom_f_plain (hMk : RMarkOk) {F : Nat → Prop} {s : ByteArray} {st : ReSt} {cv mv : Value} (w : World) (dp : Nat) (sub : Option (ReSt → ReRes (ReSt × Nd))) (hR : RfR F w s st cv mv) (hlt : st.pos < s.size) (h40 : opAt false s.data.toList st.pos 40 = false) (h41 : opAt false s.data.toList st.pos 41 = false) (h91 : byt s.data.toList st.pos ≠ 91) (h46 : byt s.data.toList st.pos ≠ 46) (h92 : byt s.data.toList st.pos ≠ 92) :
  Calls Tryz.prog 78 #[.agg (rfC s false st.pos st.opened cv mv 0 0), .int .i64 (dp : Int)] w (RfAns F (fun _ => False) (fun _ => true) false s (atomM false s.data.toList sub st) w) := by
 obtain ⟨R, hR0⟩ : ∃ R, R = atomM false s.data.toList sub st := ⟨_, rfl⟩
 rw [← hR0]
 obtain ⟨ca, cl, cc, rfl⟩ := hR.c.form
 obtain ⟨ma, ml, mc, rfl⟩ := hR.m.form
 have hsm := hR.small
 have H0 := Lib.hid (Fr.begin (ere := false) hR)
 have HR0 := Lib.hid hR0
 have HMk := Lib.hid hMk
 have HLt := Lib.hid (show st.pos < s.size ∧ s.size ≤ 250 from ⟨hlt, hsm⟩)
 have HSg := Lib.hid (fun w => rsign_any s false st.pos st.opened (.slice ca cl cc) (.slice ma ml mc) 0 0 st.pos w (by omega))
 have HOp := Lib.hid (fun (b : UInt8) w => rop_f s st.pos st.opened (.slice ca cl cc) (.slice ma ml mc) 0 0 b w)
 have HOne := Lib.hid (fun (t : OSet) w => rone_c t w)
 clear hR hR0 hMk hlt hsm
 go_enter Tryz.func78, Tryz.ntmps78
 go_upto_region 1 with fail
 have HF1 := Lib.hid H0.out
 generalize ((w.alloc (.cells (rfC s false st.pos st.opened (.slice ca cl cc) (.slice ma ml mc) 0 0) 87)).alloc (.cells rfZ 87)).alloc (.cells zC 36) = w1 at *
 obtain ⟨c0, c1, c2, c3, c4, c5, c6, c7, f0, f1, f2, f3, f4, f5, f6, f7, hl⟩ := blk8 HF1.out.k2
 go_wp2_with fail
 with_reducible refine (HSg.out _).mono ?_
 rintro e w2 ⟨t, rfl, ht, b2⟩
 have HF2 := Lib.hid (HF1.out.step b2)
 clear b2
 clear c0 c1 c2 c3 c4 c5 c6 c7 f0 f1 f2 f3 f4 f5 f6 f7 hl
 obtain ⟨c0, c1, c2, c3, c4, c5, c6, c7, f0, f1, f2, f3, f4, f5, f6, f7, hl⟩ := blk8 HF2.out.k2
 obtain ⟨x, hx⟩ : ∃ x, x = s.data.toList.getD st.pos 0 := ⟨_, rfl⟩
 have hbx : byt s.data.toList st.pos = x.toNat := by rw [hx]; rfl
 obtain ⟨p2, hp2⟩ : ∃ p2, p2 = st.pos + 1 := ⟨_, rfl⟩
 have Wp : IntKind.i64.wrap ((st.pos : Int) + 1) = (p2 : Int) := by have := HLt.out; rw [IntWalk.i64_in _ (by omega)]; omega
 have HP2 := Lib.hid (show p2 = st.pos + 1 ∧ p2 ≤ s.size ∧ s.size ≤ 250 by have := HLt.out; omega)
 clear hp2
 have HRx := Lib.hid (show R = .ok (⟨p2, st.opened, st.closed, st.marks⟩, .one (oSpan (x.toNat : Int) (x.toNat : Int))) by rw [HR0.out, HP2.out.1]; unfold atomM; rw [h40, h41, ch_no h91, ch_no h46, ch_no h92, hbx]; rfl)
 have et : t = ⟨#[x]⟩ := by
  apply ba_ext
  rw [ht]
  unfold signL
  rw [if_neg (by have := HLt.out; simp; omega), if_neg (fun y => h92 y.1), hx]
 obtain ⟨n0, n0'⟩ := sgn_no_es ht 40 h40
 obtain ⟨n1, n1'⟩ := sgn_no_es ht 41 h41
 rw [hbx] at h91 h46 h92
 have n2 : ¬ x = 91 := fun e => h91 (by rw [e]; rfl)
 have n3 : ¬ x = 46 := fun e => h46 (by rw [e]; rfl)
 have n4 : ¬ x = 92 := fun e => h92 (by rw [e]; rfl)
 have n2' : (x == 91) = false := by rw [beq_eq_false_iff_ne]; exact n2
 have n3' : (x == 46) = false := by rw [beq_eq_false_iff_ne]; exact n3
 have n4' : (x == 92) = false := by rw [beq_eq_false_iff_ne]; exact n4
 subst et
 have hx1 : (0 : Int) ≤ (x.toNat : Int) := by omega
 have hx2 : (x.toNat : Int) ≤ 255 := by have := x.toNat_lt; omega
 have hix : (ByteArray.mk #[x])[0]'(by show 0 < (#[x] : Array UInt8).size; simp) = x := rfl
 have HSp := Lib.hid (fun w => rspan_any (x.toNat : Int) (x.toNat : Int) w hx1 hx2 hx1 hx2)
 clear h40 h41 h46 h91 h92 ht hbx hx
 go_wp2_with fail
 with_reducible refine (HOp.out _ _).mono ?_
 rintro e w3 ⟨rfl, b3⟩
 have HF3 := Lib.hid (HF2.out.step b3)
 clear b3
 clear c0 c1 c2 c3 c4 c5 c6 c7 f0 f1 f2 f3 f4 f5 f6 f7 hl
 obtain ⟨c0, c1, c2, c3, c4, c5, c6, c7, f0, f1, f2, f3, f4, f5, f6, f7, hl⟩ := blk8 HF3.out.k2
 go_wp2_with fail
 with_reducible refine (HOp.out _ _).mono ?_
 rintro e w4 ⟨rfl, b4⟩
 have HF4 := Lib.hid (HF3.out.step b4)
 clear b4
 clear c0 c1 c2 c3 c4 c5 c6 c7 f0 f1 f2 f3 f4 f5 f6 f7 hl
 obtain ⟨c0, c1, c2, c3, c4, c5, c6, c7, f0, f1, f2, f3, f4, f5, f6, f7, hl⟩ := blk8 HF4.out.k2
 go_upto_region 33 with fail
 have HFx : Hid (Fr F w s false (w4.setCell ⟨w.heap.size, 2, none⟩ (.int .i64 (p2 : Int))) ⟨p2, st.opened, st.closed, st.marks⟩ (.slice ca cl cc) (.slice ma ml mc)) := Lib.hid (HF4.out.to p2 (by have := HP2.out; omega) (by have := HP2.out; omega))
 clear c0 c1 c2 c3 c4 c5 c6 c7 f0 f1 f2 f3 f4 f5 f6 f7 hl
 generalize w4.setCell ⟨w.heap.size, 2, none⟩ (.int .i64 (p2 : Int)) = W at *
 have HSS := Lib.hid (C8.of HFx.out.k2)
 have hn1 : w.heap.size ≠ w.heap.size + 1 := by omega
 have hn3 : w.heap.size ≠ w.heap.size + 1 + 1 := by omega
 go_region_held3 (fun w' => C8 w' w.heap.size (.string s) (.bool false) (.int .i64 (p2 : Int)) (.int .i64 (st.opened : Int)) (.slice ca cl cc) (.slice ma ml mc) (.int .i64 0) (.int .i64 0))
  (first | (with_reducible exact C8.of HL31.out.k2) | (with_reducible exact C8.of HL30.out.k2) | (with_reducible exact C8.drew HSS.out) | (with_reducible exact C8.put8 (by assumption) hn1) | (with_reducible exact C8.put9 (by assumption) hn3))
  (first | (go_at_call 92; refine (HOne.out _ _).mono ?_; rintro e w31 ⟨rfl, b31⟩; have hL31 := (by first | exact HL30.out.step b31 | exact (HL30.out.step (Below.refl _ _).drew).step b31 : Fr F w s false w31 ⟨p2, st.opened, st.closed, st.marks⟩ (.slice ca cl cc) (.slice ma ml mc)); have HL31 := Lib.hid hL31; clear b31; obtain ⟨x0, x1, x2, x3, x4, x5, x6, x7, y0, y1, y2, y3, y4, y5, y6, y7, hx⟩ := blk8 hL31.k4; obtain ⟨z0, z1, z2, z3, z4, z5, z6, z7, z8, v0, v1, v2, v3, v4, v5, v6, v7, v8, hz⟩ := blk9n hL31.k5; clear hL31) | (go_at_call 93; refine (HSp.out _).mono ?_; rintro e w30 ⟨rfl, b30⟩; have hL30 := (by first | exact HFx.out.step b30 | exact (HFx.out.step (Below.refl _ _).drew).step b30 : Fr F w s false w30 ⟨p2, st.opened, st.closed, st.marks⟩ (.slice ca cl cc) (.slice ma ml mc)); have HL30 := Lib.hid hL30; clear b30; clear hL30))
 all_goals
  go_wp2_with fail
  first
   | (with_reducible refine post17 HL31.out.b HL31.out.k4 HL31.out.k5 ?_ ?_ ?_ ?_)
   | (with_reducible refine post17d HL31.out.b HL31.out.k4 HL31.out.k5 ?_ ?_ ?_ rfl ?_)
  ·omega
  ·omega
  ·omega
  intro w9 hB9 hk9 hj9 hs9 hz9
  have HA := Lib.hid (HL31.out.ok (FT := fun _ => False) (C := fun _ => true) (d := .one (oSpan (x.toNat : Int) (x.toNat : Int))) HRx.out (trx_leaf rfl) hB9 hs9 hz9)
  clear x0 x1 x2 x3 x4 x5 x6 x7 y0 y1 y2 y3 y4 y5 y6 y7 hx z0 z1 z2 z3 z4 z5 z6 z7 z8 v0 v1 v2 v3 v4 v5 v6 v7 v8 hz
  obtain ⟨x0, x1, x2, x3, x4, x5, x6, x7, _⟩ := blk8 hk9
  obtain ⟨z0, z1, z2, z3, z4, z5, z6, z7, z8, _⟩ := blk9n hj9
  refine bodyPost_ret (v := .tuple #[.agg (rfC s false p2 st.opened (.slice ca cl cc) (.slice ma ml mc) 0 0), .agg (tC (unc (.one (oSpan (x.toNat : Int) (x.toNat : Int)))) none 0)]) (by simp [results, Tryz.results78, go_sem, x0, x1, x2, x3, x4, x5, x6, x7, z0, z1, z2, z3, z4, z5, z6, z7, z8]) rfl ?_
  first | exact HA.out | exact HA.out.drew
set_option linter.unusedSimpArgs false in
set_option maxRecDepth 100000 in
set_option maxHeartbeats 40000000 in
theorem ratom_f_brerr (hMk : RMarkOk) {F : Nat → Prop} {s : ByteArray} {st : ReSt} {cv mv : Value} (w : World) (dp : Nat) (sub : Option (ReSt → ReRes (ReSt × Nd))) (hR : RfR F w s st cv mv) (hlt : st.pos < s.size) (h40 : opAt false s.data.toList st.pos 40 = false) (h41 : opAt false s.data.toList st.pos 41 = false) (h91 : chAt s.data.toList st.pos 91 = true) (hE : (prs s.data.toList ((st.pos : Int) + 1)).2.2 ≠ 0) :
  Calls Tryz.prog 78 #[.agg (rfC s false st.pos st.opened cv mv 0 0), .int .i64 (dp : Int)] w (RfAns F (fun _ => False) (fun _ => true) false s (atomM false s.data.toList sub st) w) := by
 obtain ⟨R, hR0⟩ : ∃ R, R = atomM false s.data.toList sub st := ⟨_, rfl⟩
 rw [← hR0]
 obtain ⟨ca, cl, cc, rfl⟩ := hR.c.form
 obtain ⟨ma, ml, mc, rfl⟩ := hR.m.form
 have hsm := hR.small
 have H0 := Lib.hid (Fr.begin (ere := false) hR)
 have HR0 := Lib.hid hR0
 have HMk := Lib.hid hMk
 have HLt := Lib.hid (show st.pos < s.size ∧ s.size ≤ 250 from ⟨hlt, hsm⟩)
 have HSg := Lib.hid (fun w => rsign_any s false st.pos st.opened (.slice ca cl cc) (.slice ma ml mc) 0 0 st.pos w (by omega))
 have HOp := Lib.hid (fun (b : UInt8) w => rop_f s st.pos st.opened (.slice ca cl cc) (.slice ma ml mc) 0 0 b w)
 have HOne := Lib.hid (fun (t : OSet) w => rone_c t w)
 clear hR hR0 hMk hlt hsm
 go_enter Tryz.func78, Tryz.ntmps78
 go_upto_region 1 with fail
 have HF1 := Lib.hid H0.out
 generalize ((w.alloc (.cells (rfC s false st.pos st.opened (.slice ca cl cc) (.slice ma ml mc) 0 0) 87)).alloc (.cells rfZ 87)).alloc (.cells zC 36) = w1 at *
 obtain ⟨c0, c1, c2, c3, c4, c5, c6, c7, f0, f1, f2, f3, f4, f5, f6, f7, hl⟩ := blk8 HF1.out.k2
 go_wp2_with fail
 with_reducible refine (HSg.out _).mono ?_
 rintro e w2 ⟨t, rfl, ht, b2⟩
 have HF2 := Lib.hid (HF1.out.step b2)
 clear b2
 clear c0 c1 c2 c3 c4 c5 c6 c7 f0 f1 f2 f3 f4 f5 f6 f7 hl
 obtain ⟨c0, c1, c2, c3, c4, c5, c6, c7, f0, f1, f2, f3, f4, f5, f6, f7, hl⟩ := blk8 HF2.out.k2
 have h46 : chAt s.data.toList st.pos 46 = false := ch_no (by rw [(ch_byt h91).2]; decide)
 obtain ⟨p2, hp2⟩ : ∃ p2, p2 = st.pos + 1 := ⟨_, rfl⟩
 have Wp : IntKind.i64.wrap ((st.pos : Int) + 1) = (p2 : Int) := by have := HLt.out; rw [IntWalk.i64_in _ (by omega)]; omega
 have hpi : ((st.pos : Int) + 1) = (p2 : Int) := by omega
 obtain ⟨S, j, er, hpr, hj⟩ := prs_form s.data.toList p2 (by have := HLt.out; simp; omega)
 have HBr := Lib.hid (fun w => rparse_any s (p2 : Int) w (by have := HLt.out; omega))
 rw [hpi, hpr] at hE
 have HRx := Lib.hid (show R = .error (er, j) by rw [HR0.out]; unfold atomM; rw [h40, h41, h91, hpi, hpr]; simp only [Bool.false_eq_true, if_false, if_true]; rw [if_neg hE]; simp)
 have e9 : ((er : Int) == 0) = false := by rw [beq_eq_false_iff_ne]; exact fun h => hE (by simpa using h)
 have e9' : ((er : Int) != 0) = true := by simp [bne, e9]
 have HEr := Lib.hid (show er ≠ 0 from hE)
 clear hE hj
 obtain ⟨n0, n0'⟩ := sgn_no_es ht 40 h40
 obtain ⟨n1, n1'⟩ := sgn_no_es ht 41 h41
 have e1 := (sgn_ch ht 91 (by decide)).2 h91
 clear h40 h41 h46 h91 ht hp2 hpi
 have HBs : Hid (∀ w, Calls Tryz.prog 91 #[.string s, .int .i64 (p2 : Int)] w fun e w' => e = .returned (.tuple #[.agg #[.int .u64 (ow S 0), .int .u64 (ow S 1), .int .u64 (ow S 2), .int .u64 (ow S 3)], .int .i64 (j : Int), .int .i64 (er : Int)]) ∧ Below w.heap.size w w') := Lib.hid (fun w => (HBr.out w).mono fun _ _ h => ⟨by rw [h.1, hpr]; rfl, h.2⟩)
 clear HBr hpr
 go_wp2_with fail
 with_reducible refine (HOp.out _ _).mono ?_
 rintro e w3 ⟨rfl, b3⟩
 have HF3 := Lib.hid (HF2.out.step b3)
 clear b3
 clear c0 c1 c2 c3 c4 c5 c6 c7 f0 f1 f2 f3 f4 f5 f6 f7 hl
 obtain ⟨c0, c1, c2, c3, c4, c5, c6, c7, f0, f1, f2, f3, f4, f5, f6, f7, hl⟩ := blk8 HF3.out.k2
 go_wp2_with fail
 with_reducible refine (HOp.out _ _).mono ?_
 rintro e w4 ⟨rfl, b4⟩
 have HF4 := Lib.hid (HF3.out.step b4)
 clear b4
 clear c0 c1 c2 c3 c4 c5 c6 c7 f0 f1 f2 f3 f4 f5 f6 f7 hl
 obtain ⟨c0, c1, c2, c3, c4, c5, c6, c7, f0, f1, f2, f3, f4, f5, f6, f7, hl⟩ := blk8 HF4.out.k2
 go_wp2_with fail
 with_reducible refine (HBs.out _).mono ?_
 rintro e w5 ⟨rfl, b5⟩
 have HF5 := Lib.hid (HF4.out.step b5)
 clear b5
 clear c0 c1 c2 c3 c4 c5 c6 c7 f0 f1 f2 f3 f4 f5 f6 f7 hl
 obtain ⟨c0, c1, c2, c3, c4, c5, c6, c7, f0, f1, f2, f3, f4, f5, f6, f7, hl⟩ := blk8 HF5.out.k2
 have HFl := Lib.hid (fun w => rfail_any s false st.pos st.opened (.slice ca cl cc) (.slice ma ml mc) (er : Int) (j : Int) w ⟨_, _, _, rfl⟩ ⟨_, _, _, rfl⟩)
 go_wp2_with fail
 with_reducible refine (HFl.out _).mono ?_
 rintro e w6 ⟨rfl, b6⟩
 have HA5 := Lib.hid ((Below.refl w5.heap.size w5).alloc (Nat.le_refl _) (.cells #[.int .u64 (ow S 0), .int .u64 (ow S 1), .int .u64 (ow S 2), .int .u64 (ow S 3)] 33))
 have HF6 := Lib.hid ((HF5.out.step HA5.out).step b6)
 clear b6
 clear c0 c1 c2 c3 c4 c5 c6 c7 f0 f1 f2 f3 f4 f5 f6 f7 hl
 obtain ⟨x0, x1, x2, x3, x4, x5, x6, x7, y0, y1, y2, y3, y4, y5, y6, y7, hx⟩ := blk8 HF6.out.k4; obtain ⟨z0, z1, z2, z3, z4, z5, z6, z7, z8, v0, v1, v2, v3, v4, v5, v6, v7, v8, hz⟩ := blk9n HF6.out.k5
 all_goals
  go_wp2_with fail
  first
   | (with_reducible refine post17 HF6.out.b HF6.out.k4 HF6.out.k5 ?_ ?_ ?_ ?_)
   | (with_reducible refine post17d HF6.out.b HF6.out.k4 HF6.out.k5 ?_ ?_ ?_ rfl ?_)
  ·omega
  ·omega
  ·omega
  intro w9 hB9 hk9 hj9 hs9 hz9
  have HA := Lib.hid (HF6.out.err (FT := fun _ => False) (C := fun _ => true) HRx.out rfl HEr.out hB9)
  clear x0 x1 x2 x3 x4 x5 x6 x7 y0 y1 y2 y3 y4 y5 y6 y7 hx z0 z1 z2 z3 z4 z5 z6 z7 z8 v0 v1 v2 v3 v4 v5 v6 v7 v8 hz
  obtain ⟨x0, x1, x2, x3, x4, x5, x6, x7, _⟩ := blk8 hk9
  obtain ⟨z0, z1, z2, z3, z4, z5, z6, z7, z8, _⟩ := blk9n hj9
  refine bodyPost_ret (v := .tuple #[.agg (rfC s false st.pos st.opened (.slice ca cl cc) (.slice ma ml mc) (er : Int) (j : Int)), .agg zC]) (by simp [results, Tryz.results78, go_sem, x0, x1, x2, x3, x4, x5, x6, x7, z0, z1, z2, z3, z4, z5, z6, z7, z8]) rfl ?_
  first | exact HA.out | exact HA.out.drew
set_option linter.unusedSimpArgs false in
set_option maxRecDepth 100000 in
set_option maxHeartbeats 40000000 in
theorem ratom_f_brok (hMk : RMarkOk) {F : Nat → Prop} {s : ByteArray} {st : ReSt} {cv mv : Value} (w : World) (dp : Nat) (sub : Option (ReSt → ReRes (ReSt × Nd))) (hR : RfR F w s st cv mv) (hlt : st.pos < s.size) (h40 : opAt false s.data.toList st.pos 40 = false) (h41 : opAt false s.data.toList st.pos 41 = false) (h91 : chAt s.data.toList st.pos 91 = true) (hE : (prs s.data.toList ((st.pos : Int) + 1)).2.2 = 0) :
  Calls Tryz.prog 78 #[.agg (rfC s false st.pos st.opened cv mv 0 0), .int .i64 (dp : Int)] w (RfAns F (fun _ => False) (fun _ => true) false s (atomM false s.data.toList sub st) w) := by
 obtain ⟨R, hR0⟩ : ∃ R, R = atomM false s.data.toList sub st := ⟨_, rfl⟩
 rw [← hR0]
 obtain ⟨ca, cl, cc, rfl⟩ := hR.c.form
 obtain ⟨ma, ml, mc, rfl⟩ := hR.m.form
 have hsm := hR.small
 have H0 := Lib.hid (Fr.begin (ere := false) hR)
 have HR0 := Lib.hid hR0
 have HMk := Lib.hid hMk
 have HLt := Lib.hid (show st.pos < s.size ∧ s.size ≤ 250 from ⟨hlt, hsm⟩)
 have HSg := Lib.hid (fun w => rsign_any s false st.pos st.opened (.slice ca cl cc) (.slice ma ml mc) 0 0 st.pos w (by omega))
 have HOp := Lib.hid (fun (b : UInt8) w => rop_f s st.pos st.opened (.slice ca cl cc) (.slice ma ml mc) 0 0 b w)
 have HOne := Lib.hid (fun (t : OSet) w => rone_c t w)
 clear hR hR0 hMk hlt hsm
 go_enter Tryz.func78, Tryz.ntmps78
 go_upto_region 1 with fail
 have HF1 := Lib.hid H0.out
 generalize ((w.alloc (.cells (rfC s false st.pos st.opened (.slice ca cl cc) (.slice ma ml mc) 0 0) 87)).alloc (.cells rfZ 87)).alloc (.cells zC 36) = w1 at *
 obtain ⟨c0, c1, c2, c3, c4, c5, c6, c7, f0, f1, f2, f3, f4, f5, f6, f7, hl⟩ := blk8 HF1.out.k2
 go_wp2_with fail
 with_reducible refine (HSg.out _).mono ?_
 rintro e w2 ⟨t, rfl, ht, b2⟩
 have HF2 := Lib.hid (HF1.out.step b2)
 clear b2
 clear c0 c1 c2 c3 c4 c5 c6 c7 f0 f1 f2 f3 f4 f5 f6 f7 hl
 obtain ⟨c0, c1, c2, c3, c4, c5, c6, c7, f0, f1, f2, f3, f4, f5, f6, f7, hl⟩ := blk8 HF2.out.k2
 have h46 : chAt s.data.toList st.pos 46 = false := ch_no (by rw [(ch_byt h91).2]; decide)
 obtain ⟨p2, hp2⟩ : ∃ p2, p2 = st.pos + 1 := ⟨_, rfl⟩
 have Wp : IntKind.i64.wrap ((st.pos : Int) + 1) = (p2 : Int) := by have := HLt.out; rw [IntWalk.i64_in _ (by omega)]; omega
 have hpi : ((st.pos : Int) + 1) = (p2 : Int) := by omega
 obtain ⟨S, j, er, hpr, hj⟩ := prs_form s.data.toList p2 (by have := HLt.out; simp; omega)
 have HBr := Lib.hid (fun w => rparse_any s (p2 : Int) w (by have := HLt.out; omega))
 rw [hpi, hpr] at hE
 have hE0 : er = 0 := hE
 have hj2 := hj hE0
 have HRx := Lib.hid (show R = .ok (⟨j, st.opened, st.closed, st.marks⟩, .one S) by rw [HR0.out]; unfold atomM; rw [h40, h41, h91, hpi, hpr]; simp [ReSt.to, hE0])
 have HJ := Lib.hid (show st.pos ≤ j ∧ j ≤ s.size by have h9 := hj2.2; simp at h9; omega)
 have e9 : ((er : Int) == 0) = true := by rw [hE0]; rfl
 have e9' : ((er : Int) != 0) = false := by rw [hE0]; rfl
 clear hj hj2 hE hE0
 obtain ⟨n0, n0'⟩ := sgn_no_es ht 40 h40
 obtain ⟨n1, n1'⟩ := sgn_no_es ht 41 h41
 have e1 := (sgn_ch ht 91 (by decide)).2 h91
 clear h40 h41 h46 h91 ht hp2 hpi
 have HBs : Hid (∀ w, Calls Tryz.prog 91 #[.string s, .int .i64 (p2 : Int)] w fun e w' => e = .returned (.tuple #[.agg #[.int .u64 (ow S 0), .int .u64 (ow S 1), .int .u64 (ow S 2), .int .u64 (ow S 3)], .int .i64 (j : Int), .int .i64 (er : Int)]) ∧ Below w.heap.size w w') := Lib.hid (fun w => (HBr.out w).mono fun _ _ h => ⟨by rw [h.1, hpr]; rfl, h.2⟩)
 clear HBr hpr
 go_wp2_with fail
 with_reducible refine (HOp.out _ _).mono ?_
 rintro e w3 ⟨rfl, b3⟩
 have HF3 := Lib.hid (HF2.out.step b3)
 clear b3
 clear c0 c1 c2 c3 c4 c5 c6 c7 f0 f1 f2 f3 f4 f5 f6 f7 hl
 obtain ⟨c0, c1, c2, c3, c4, c5, c6, c7, f0, f1, f2, f3, f4, f5, f6, f7, hl⟩ := blk8 HF3.out.k2
 go_wp2_with fail
 with_reducible refine (HOp.out _ _).mono ?_
 rintro e w4 ⟨rfl, b4⟩
 have HF4 := Lib.hid (HF3.out.step b4)
 clear b4
 clear c0 c1 c2 c3 c4 c5 c6 c7 f0 f1 f2 f3 f4 f5 f6 f7 hl
 obtain ⟨c0, c1, c2, c3, c4, c5, c6, c7, f0, f1, f2, f3, f4, f5, f6, f7, hl⟩ := blk8 HF4.out.k2
 go_wp2_with fail
 with_reducible refine (HBs.out _).mono ?_
 rintro e w5 ⟨rfl, b5⟩
 have HF5 := Lib.hid (HF4.out.step b5)
 clear b5
 clear c0 c1 c2 c3 c4 c5 c6 c7 f0 f1 f2 f3 f4 f5 f6 f7 hl
 go_upto_region 21 with fail
 have HA5 := (Below.refl w5.heap.size w5).alloc (Nat.le_refl _) (.cells #[.int .u64 (ow S 0), .int .u64 (ow S 1), .int .u64 (ow S 2), .int .u64 (ow S 3)] 33)
 have HF6 := Lib.hid (HF5.out.step HA5)
 have HQ6 := Lib.hid (Blk.new w5 #[.int .u64 (ow S 0), .int .u64 (ow S 1), .int .u64 (ow S 2), .int .u64 (ow S 3)] 33 w5.heap.size rfl)
 have HG6 := Lib.hid (show w.heap.size + 3 ≤ w5.heap.size by have := HF5.out.k5.lt; omega)
 clear HA5
 generalize w5.alloc (.cells #[.int .u64 (ow S 0), .int .u64 (ow S 1), .int .u64 (ow S 2), .int .u64 (ow S 3)] 33) = w6 at *
 generalize w5.heap.size = q8 at *
 obtain ⟨c0, c1, c2, c3, c4, c5, c6, c7, f0, f1, f2, f3, f4, f5, f6, f7, hl⟩ := blk8 HF6.out.k2
 go_upto_region 24 with fail
 have HFx : Hid (Fr F w s false (w6.setCell ⟨w.heap.size, 2, none⟩ (.int .i64 (j : Int))) ⟨j, st.opened, st.closed, st.marks⟩ (.slice ca cl cc) (.slice ma ml mc)) := Lib.hid (HF6.out.to j HJ.out.1 HJ.out.2)
 have HQx := Lib.hid (HQ6.out.same (far_set w6 w.heap.size 2 (.int .i64 (j : Int)) (by have := HG6.out; omega)))
 clear c0 c1 c2 c3 c4 c5 c6 c7 f0 f1 f2 f3 f4 f5 f6 f7 hl
 generalize w6.setCell ⟨w.heap.size, 2, none⟩ (.int .i64 (j : Int)) = W at *
 have HSS := Lib.hid (C12.of HFx.out.k2 HQx.out)
 have hn1 : w.heap.size ≠ w.heap.size + 1 := by omega
 have hn2 : q8 ≠ w.heap.size + 1 := by have := HG6.out; omega
 have hn3 : w.heap.size ≠ w.heap.size + 1 + 1 := by omega
 have hn4 : q8 ≠ w.heap.size + 1 + 1 := by have := HG6.out; omega
 go_region_held3 (fun w' => C12 w' w.heap.size q8 (.string s) (.bool false) (.int .i64 (j : Int)) (.int .i64 (st.opened : Int)) (.slice ca cl cc) (.slice ma ml mc) (.int .i64 0) (.int .i64 0) (.int .u64 (ow S 0)) (.int .u64 (ow S 1)) (.int .u64 (ow S 2)) (.int .u64 (ow S 3)))
  (first | (with_reducible exact C12.drew HSS.out) | (with_reducible exact C12.of HLz.out.k2 HQz.out) | (with_reducible exact C12.put8 (by assumption) hn1 hn2) | (with_reducible exact C12.put9 (by assumption) hn3 hn4))
  (first | (go_at_call 92; refine (HOne.out S _).mono ?_; rintro e w8 ⟨rfl, b8⟩; have hLz := (by first | exact HFx.out.step b8 | exact (HFx.out.step (Below.refl _ _).drew).step b8 : Fr F w s false w8 ⟨j, st.opened, st.closed, st.marks⟩ (.slice ca cl cc) (.slice ma ml mc)); have hQz := (by first | exact HQx.out.below b8 HQx.out.lt | exact (HQx.out.drew).below b8 HQx.out.lt : Blk w8 q8 #[.int .u64 (ow S 0), .int .u64 (ow S 1), .int .u64 (ow S 2), .int .u64 (ow S 3)] 33); have HLz := Lib.hid hLz; have HQz := Lib.hid hQz; clear b8; obtain ⟨x0, x1, x2, x3, x4, x5, x6, x7, y0, y1, y2, y3, y4, y5, y6, y7, hx⟩ := blk8 hLz.k4; obtain ⟨z0, z1, z2, z3, z4, z5, z6, z7, z8, v0, v1, v2, v3, v4, v5, v6, v7, v8, hz⟩ := blk9n hLz.k5; clear hLz hQz))
 all_goals
  go_wp2_with fail
  first
   | (with_reducible refine post17 HLz.out.b HLz.out.k4 HLz.out.k5 ?_ ?_ ?_ ?_)
   | (with_reducible refine post17d HLz.out.b HLz.out.k4 HLz.out.k5 ?_ ?_ ?_ rfl ?_)
  ·omega
  ·omega
  ·omega
  intro w9 hB9 hk9 hj9 hs9 hz9
  have HA := Lib.hid (HLz.out.ok (FT := fun _ => False) (C := fun _ => true) (d := .one S) HRx.out (trx_leaf rfl) hB9 hs9 hz9)
  clear x0 x1 x2 x3 x4 x5 x6 x7 y0 y1 y2 y3 y4 y5 y6 y7 hx z0 z1 z2 z3 z4 z5 z6 z7 z8 v0 v1 v2 v3 v4 v5 v6 v7 v8 hz
  obtain ⟨x0, x1, x2, x3, x4, x5, x6, x7, _⟩ := blk8 hk9
  obtain ⟨z0, z1, z2, z3, z4, z5, z6, z7, z8, _⟩ := blk9n hj9
  refine bodyPost_ret (v := .tuple #[.agg (rfC s false j st.opened (.slice ca cl cc) (.slice ma ml mc) 0 0), .agg (tC (unc (.one S)) none 0)]) (by simp [results, Tryz.results78, go_sem, x0, x1, x2, x3, x4, x5, x6, x7, z0, z1, z2, z3, z4, z5, z6, z7, z8]) rfl ?_
  first | exact HA.out | exact HA.out.drew
set_option linter.unusedSimpArgs false in
set_option maxRecDepth 100000 in
set_option maxHeartbeats 40000000 in
theorem ratom_f_esc (hMk : RMarkOk) {F : Nat → Prop} {s : ByteArray} {st : ReSt} {cv mv : Value} (w : World) (dp : Nat) (sub : Option (ReSt → ReRes (ReSt × Nd))) (hR : RfR F w s st cv mv) (hlt : st.pos < s.size) (h40 : opAt false s.data.toList st.pos 40 = false) (h41 : opAt false s.data.toList st.pos 41 = false) (h92 : byt s.data.toList st.pos = 92) (h1 : st.pos + 1 < s.data.toList.length) :
  Calls Tryz.prog 78 #[.agg (rfC s false st.pos st.opened cv mv 0 0), .int .i64 (dp : Int)] w (RfAns F (fun _ => False) (fun _ => true) false s (atomM false s.data.toList sub st) w) := by
 obtain ⟨R, hR0⟩ : ∃ R, R = atomM false s.data.toList sub st := ⟨_, rfl⟩
 rw [← hR0]
 obtain ⟨ca, cl, cc, rfl⟩ := hR.c.form
 obtain ⟨ma, ml, mc, rfl⟩ := hR.m.form
 have hsm := hR.small
 have H0 := Lib.hid (Fr.begin (ere := false) hR)
 have HR0 := Lib.hid hR0
 have HMk := Lib.hid hMk
 have HLt := Lib.hid (show st.pos < s.size ∧ s.size ≤ 250 from ⟨hlt, hsm⟩)
 have HSg := Lib.hid (fun w => rsign_any s false st.pos st.opened (.slice ca cl cc) (.slice ma ml mc) 0 0 st.pos w (by omega))
 have HOp := Lib.hid (fun (b : UInt8) w => rop_f s st.pos st.opened (.slice ca cl cc) (.slice ma ml mc) 0 0 b w)
 have HOne := Lib.hid (fun (t : OSet) w => rone_c t w)
 clear hR hR0 hMk hlt hsm
 go_enter Tryz.func78, Tryz.ntmps78
 go_upto_region 1 with fail
 have HF1 := Lib.hid H0.out
 generalize ((w.alloc (.cells (rfC s false st.pos st.opened (.slice ca cl cc) (.slice ma ml mc) 0 0) 87)).alloc (.cells rfZ 87)).alloc (.cells zC 36) = w1 at *
 obtain ⟨c0, c1, c2, c3, c4, c5, c6, c7, f0, f1, f2, f3, f4, f5, f6, f7, hl⟩ := blk8 HF1.out.k2
 go_wp2_with fail
 with_reducible refine (HSg.out _).mono ?_
 rintro e w2 ⟨t, rfl, ht, b2⟩
 have HF2 := Lib.hid (HF1.out.step b2)
 clear b2
 clear c0 c1 c2 c3 c4 c5 c6 c7 f0 f1 f2 f3 f4 f5 f6 f7 hl
 obtain ⟨c0, c1, c2, c3, c4, c5, c6, c7, f0, f1, f2, f3, f4, f5, f6, f7, hl⟩ := blk8 HF2.out.k2
 have h91 : chAt s.data.toList st.pos 91 = false := ch_no (by rw [h92]; decide)
 have h46 : chAt s.data.toList st.pos 46 = false := ch_no (by rw [h92]; decide)
 have h9 : chAt s.data.toList st.pos 92 = true := by unfold chAt; rw [decide_eq_true (by have := HLt.out; simp; omega), decide_eq_true h92]; rfl
 obtain ⟨x, hx⟩ : ∃ x, x = s.data.toList.getD (st.pos + 1) 0 := ⟨_, rfl⟩
 have hbx : byt s.data.toList (st.pos + 1) = x.toNat := by rw [hx]; rfl
 have HRx := Lib.hid (show R = escM false st x.toNat by rw [HR0.out]; unfold atomM; rw [h40, h41, h91, h46, h9, if_pos h1, hbx]; rfl)
 have et : t = ⟨#[92, x]⟩ := by
  apply ba_ext
  rw [ht]
  unfold signL
  rw [if_neg (by have := HLt.out; simp; omega), if_pos ⟨h92, h1⟩, hx]
  congr 1
  rw [← UInt8.toNat_inj]
  exact h92
 obtain ⟨n0, n0'⟩ := sgn_no_es ht 40 h40
 obtain ⟨n1, n1'⟩ := sgn_no_es ht 41 h41
 subst et
 have m0 : ¬ x = 40 := fun e => n0' (by rw [e, ByteArray.toList_eq])
 have m1 : ¬ x = 41 := fun e => n1' (by rw [e, ByteArray.toList_eq])
 have m0' : (x == 40) = false := by rw [beq_eq_false_iff_ne]; exact m0
 have m1' : (x == 41) = false := by rw [beq_eq_false_iff_ne]; exact m1
 have HL1 := Lib.hid (show st.pos + 2 ≤ s.size by simp at h1; omega)
 clear h40 h41 h46 h91 h9 h92 h1 ht hbx hx
 go_wp2_with fail
 with_reducible refine (HOp.out _ _).mono ?_
 rintro e w3 ⟨rfl, b3⟩
 have HF3 := Lib.hid (HF2.out.step b3)
 clear b3
 clear c0 c1 c2 c3 c4 c5 c6 c7 f0 f1 f2 f3 f4 f5 f6 f7 hl
 obtain ⟨c0, c1, c2, c3, c4, c5, c6, c7, f0, f1, f2, f3, f4, f5, f6, f7, hl⟩ := blk8 HF3.out.k2
 go_wp2_with fail
 with_reducible refine (HOp.out _ _).mono ?_
 rintro e w4 ⟨rfl, b4⟩
 have HF4 := Lib.hid (HF3.out.step b4)
 clear b4
 clear c0 c1 c2 c3 c4 c5 c6 c7 f0 f1 f2 f3 f4 f5 f6 f7 hl
 obtain ⟨c0, c1, c2, c3, c4, c5, c6, c7, f0, f1, f2, f3, f4, f5, f6, f7, hl⟩ := blk8 HF4.out.k2
 have hes := rescape_any HMk.out (ere := false) x w4 HF4.out.r HL1.out
 rw [← HRx.out] at hes
 go_wp2_with fail
 with_reducible refine hes.mono ?_
 clear hes
 intro e w5 hA
 cases R with
 | error q =>
  have HA5 := Lib.hid hA
  obtain ⟨hB5, at', op', cv', mv', d', a', cap', rfl, ⟨ca', cl', cc', rfl⟩, ⟨ma', ml', mc', rfl⟩, h5, h6, h7⟩ := hA
  have HF5 := Lib.hid (HF4.out.step hB5)
  clear hB5 h5 h6 h7
  clear c0 c1 c2 c3 c4 c5 c6 c7 f0 f1 f2 f3 f4 f5 f6 f7 hl
  obtain ⟨x0, x1, x2, x3, x4, x5, x6, x7, y0, y1, y2, y3, y4, y5, y6, y7, hx⟩ := blk8 HF5.out.k4; obtain ⟨z0, z1, z2, z3, z4, z5, z6, z7, z8, v0, v1, v2, v3, v4, v5, v6, v7, v8, hz⟩ := blk9n HF5.out.k5
  go_wp2_with fail
  all_goals
   go_wp2_with fail
   first
    | (with_reducible refine post17 HF5.out.b HF5.out.k4 HF5.out.k5 ?_ ?_ ?_ ?_)
    | (with_reducible refine post17d HF5.out.b HF5.out.k4 HF5.out.k5 ?_ ?_ ?_ rfl ?_)
   ·omega
   ·omega
   ·omega
   intro w9 hB9 hk9 hj9 hs9 hz9
   have HA := Lib.hid (HF4.out.pass HA5.out hB9 hs9 hz9)
   clear x0 x1 x2 x3 x4 x5 x6 x7 y0 y1 y2 y3 y4 y5 y6 y7 hx z0 z1 z2 z3 z4 z5 z6 z7 z8 v0 v1 v2 v3 v4 v5 v6 v7 v8 hz
   obtain ⟨x0, x1, x2, x3, x4, x5, x6, x7, _⟩ := blk8 hk9
   obtain ⟨z0, z1, z2, z3, z4, z5, z6, z7, z8, _⟩ := blk9n hj9
   refine bodyPost_ret (v := .tuple #[.agg (rfC s false at' op' (.slice ca' cl' cc') (.slice ma' ml' mc') (q.1 : Int) (q.2 : Int)), .agg (tC (unc d') a' cap')]) (by simp [results, Tryz.results78, go_sem, x0, x1, x2, x3, x4, x5, x6, x7, z0, z1, z2, z3, z4, z5, z6, z7, z8]) rfl ?_
   first | exact HA.out | exact HA.out.drew
 | ok q =>
  have HA5 := Lib.hid hA
  obtain ⟨hB5, cv', mv', a', cap', rfl, hr5, ht5⟩ := hA
  obtain ⟨ca', cl', cc', rfl⟩ := hr5.c.form
  obtain ⟨ma', ml', mc', rfl⟩ := hr5.m.form
  have HF5 := Lib.hid (HF4.out.step hB5)
  clear hB5 hr5 ht5
  clear c0 c1 c2 c3 c4 c5 c6 c7 f0 f1 f2 f3 f4 f5 f6 f7 hl
  obtain ⟨x0, x1, x2, x3, x4, x5, x6, x7, y0, y1, y2, y3, y4, y5, y6, y7, hx⟩ := blk8 HF5.out.k4; obtain ⟨z0, z1, z2, z3, z4, z5, z6, z7, z8, v0, v1, v2, v3, v4, v5, v6, v7, v8, hz⟩ := blk9n HF5.out.k5
  go_wp2_with fail
  all_goals
   go_wp2_with fail
   first
    | (with_reducible refine post17 HF5.out.b HF5.out.k4 HF5.out.k5 ?_ ?_ ?_ ?_)
    | (with_reducible refine post17d HF5.out.b HF5.out.k4 HF5.out.k5 ?_ ?_ ?_ rfl ?_)
   ·omega
   ·omega
   ·omega
   intro w9 hB9 hk9 hj9 hs9 hz9
   have HA := Lib.hid (HF4.out.pass HA5.out hB9 hs9 hz9)
   clear x0 x1 x2 x3 x4 x5 x6 x7 y0 y1 y2 y3 y4 y5 y6 y7 hx z0 z1 z2 z3 z4 z5 z6 z7 z8 v0 v1 v2 v3 v4 v5 v6 v7 v8 hz
   obtain ⟨x0, x1, x2, x3, x4, x5, x6, x7, _⟩ := blk8 hk9
   obtain ⟨z0, z1, z2, z3, z4, z5, z6, z7, z8, _⟩ := blk9n hj9
   refine bodyPost_ret (v := .tuple #[.agg (rfC s false q.1.pos q.1.opened (.slice ca' cl' cc') (.slice ma' ml' mc') 0 0), .agg (tC (unc q.2) a' cap')]) (by simp [results, Tryz.results78, go_sem, x0, x1, x2, x3, x4, x5, x6, x7, z0, z1, z2, z3, z4, z5, z6, z7, z8]) rfl ?_
   first | exact HA.out | exact HA.out.drew
set_option linter.unusedSimpArgs false in
set_option maxRecDepth 100000 in
set_option maxHeartbeats 40000000 in
theorem ratom_f_deep (hMk : RMarkOk) {F : Nat → Prop} {s : ByteArray} {st : ReSt} {cv mv : Value} (w : World) (dp : Nat) (sub : Option (ReSt → ReRes (ReSt × Nd))) (hR : RfR F w s st cv mv) (hlt : st.pos < s.size) (h40 : opAt false s.data.toList st.pos 40 = true) (hsub : sub = none) (hdp : dp = 12) :
  Calls Tryz.prog 78 #[.agg (rfC s false st.pos st.opened cv mv 0 0), .int .i64 (dp : Int)] w (RfAns F (fun _ => False) (fun _ => true) false s (atomM false s.data.toList sub st) w) := by
 obtain ⟨R, hR0⟩ : ∃ R, R = atomM false s.data.toList sub st := ⟨_, rfl⟩
 rw [← hR0]
 obtain ⟨ca, cl, cc, rfl⟩ := hR.c.form
 obtain ⟨ma, ml, mc, rfl⟩ := hR.m.form
 have hsm := hR.small
 have H0 := Lib.hid (Fr.begin (ere := false) hR)
 have HR0 := Lib.hid hR0
 have HMk := Lib.hid hMk
 have HLt := Lib.hid (show st.pos < s.size ∧ s.size ≤ 250 from ⟨hlt, hsm⟩)
 have HSg := Lib.hid (fun w => rsign_any s false st.pos st.opened (.slice ca cl cc) (.slice ma ml mc) 0 0 st.pos w (by omega))
 have HOp := Lib.hid (fun (b : UInt8) w => rop_f s st.pos st.opened (.slice ca cl cc) (.slice ma ml mc) 0 0 b w)
 have HOne := Lib.hid (fun (t : OSet) w => rone_c t w)
 clear hR hR0 hMk hlt hsm
 go_enter Tryz.func78, Tryz.ntmps78
 go_upto_region 1 with fail
 have HF1 := Lib.hid H0.out
 generalize ((w.alloc (.cells (rfC s false st.pos st.opened (.slice ca cl cc) (.slice ma ml mc) 0 0) 87)).alloc (.cells rfZ 87)).alloc (.cells zC 36) = w1 at *
 obtain ⟨c0, c1, c2, c3, c4, c5, c6, c7, f0, f1, f2, f3, f4, f5, f6, f7, hl⟩ := blk8 HF1.out.k2
 go_wp2_with fail
 with_reducible refine (HSg.out _).mono ?_
 rintro e w2 ⟨t, rfl, ht, b2⟩
 have HF2 := Lib.hid (HF1.out.step b2)
 clear b2
 clear c0 c1 c2 c3 c4 c5 c6 c7 f0 f1 f2 f3 f4 f5 f6 f7 hl
 obtain ⟨c0, c1, c2, c3, c4, c5, c6, c7, f0, f1, f2, f3, f4, f5, f6, f7, hl⟩ := blk8 HF2.out.k2
 have HRx := Lib.hid (show R = .error (4, st.pos) by rw [HR0.out]; unfold atomM; rw [h40, hsub]; rfl)
 have e1 := (sgn_es ht 40).2 h40
 have e12 : ((dp : Int) == 12) = true := by rw [hdp]; rfl
 clear h40 ht hdp hsub
 go_wp2_with fail
 with_reducible refine (HOp.out _ _).mono ?_
 rintro e w3 ⟨rfl, b3⟩
 have HF3 := Lib.hid (HF2.out.step b3)
 clear b3
 clear c0 c1 c2 c3 c4 c5 c6 c7 f0 f1 f2 f3 f4 f5 f6 f7 hl
 obtain ⟨c0, c1, c2, c3, c4, c5, c6, c7, f0, f1, f2, f3, f4, f5, f6, f7, hl⟩ := blk8 HF3.out.k2
 have HFl := Lib.hid (fun w => rfail_any s false st.pos st.opened (.slice ca cl cc) (.slice ma ml mc) 4 (st.pos : Int) w ⟨_, _, _, rfl⟩ ⟨_, _, _, rfl⟩)
 go_wp2_with fail
 with_reducible refine (HFl.out _).mono ?_
 rintro e w4 ⟨rfl, b4⟩
 have HF4 := Lib.hid (HF3.out.step b4)
 clear b4
 clear c0 c1 c2 c3 c4 c5 c6 c7 f0 f1 f2 f3 f4 f5 f6 f7 hl
 obtain ⟨x0, x1, x2, x3, x4, x5, x6, x7, y0, y1, y2, y3, y4, y5, y6, y7, hx⟩ := blk8 HF4.out.k4; obtain ⟨z0, z1, z2, z3, z4, z5, z6, z7, z8, v0, v1, v2, v3, v4, v5, v6, v7, v8, hz⟩ := blk9n HF4.out.k5
 all_goals
  go_wp2_with fail
  first
   | (with_reducible refine post17 HF4.out.b HF4.out.k4 HF4.out.k5 ?_ ?_ ?_ ?_)
   | (with_reducible refine post17d HF4.out.b HF4.out.k4 HF4.out.k5 ?_ ?_ ?_ rfl ?_)
  ·omega
  ·omega
  ·omega
  intro w9 hB9 hk9 hj9 hs9 hz9
  have HA := Lib.hid (HF4.out.err (FT := fun _ => False) (C := fun _ => true) HRx.out rfl (show (4 : Nat) ≠ 0 by decide) hB9)
  clear x0 x1 x2 x3 x4 x5 x6 x7 y0 y1 y2 y3 y4 y5 y6 y7 hx z0 z1 z2 z3 z4 z5 z6 z7 z8 v0 v1 v2 v3 v4 v5 v6 v7 v8 hz
  obtain ⟨x0, x1, x2, x3, x4, x5, x6, x7, _⟩ := blk8 hk9
  obtain ⟨z0, z1, z2, z3, z4, z5, z6, z7, z8, _⟩ := blk9n hj9
  refine bodyPost_ret (v := .tuple #[.agg (rfC s false st.pos st.opened (.slice ca cl cc) (.slice ma ml mc) 4 (st.pos : Int)), .agg zC]) (by simp [results, Tryz.results78, go_sem, x0, x1, x2, x3, x4, x5, x6, x7, z0, z1, z2, z3, z4, z5, z6, z7, z8]) rfl ?_
  first | exact HA.out | exact HA.out.drew
end Go.Proofs.YtkejeiopfblkgaaGreatDoor
