/- The proof's texts RfVF: what the claim reaches of them. -/
import Derived.Test.YtkejeiopfblkgaaGreatDoorBp16
import Derived.Deep.CutBlock
import Derived.Deep.DeepCutAuto
namespace Go.Proofs.YtkejeiopfblkgaaGreatDoor
open Go Go.RowKit
set_option linter.unusedSimpArgs false in
set_option maxRecDepth 100000 in
set_option maxHeartbeats 40000000 in
/-- Branches, chosen among. -/
theorem rchoice_f (hMk : RMarkOk) {F : Nat → Prop} {s : ByteArray} {st : ReSt} {cv mv : Value} (w : World) (dp : Nat) (sub : Option (ReSt → ReRes (ReSt × Nd))) (hBr : RBrOk false s sub dp) (hSb : SubMv s.data.toList sub) (hR : RfR F w s st cv mv) :
  Calls Tryz.prog 30 #[.agg (rfC s false st.pos st.opened cv mv 0 0), .int .i64 (dp : Int)] w (RfAns F (fun _ => False) (fun _ => true) false s (choiceM false s.data.toList sub (decide (dp = 0)) (s.data.toList.length + 1) st []) w) := by
 obtain ⟨R, hR0⟩ : ∃ R, R = choiceM false s.data.toList sub (decide (dp = 0)) (s.data.toList.length + 1) st [] := ⟨_, rfl⟩
 rw [← hR0]
 have hsl : s.data.toList.length = s.size := by simp
 obtain ⟨ca, cl, cc, rfl⟩ := hR.c.form
 obtain ⟨ma, ml, mc, rfl⟩ := hR.m.form
 have H0 := Lib.hid (Fr.begin (ere := false) hR)
 rw [choiceM] at hR0
 have HR0 := Lib.hid hR0
 have HMk := Lib.hid hMk
 have HBr := Lib.hid hBr
 have HSb := Lib.hid hSb
 have HSl := Lib.hid hsl
 have HPo := Lib.hid hR.pos
 obtain ⟨i0, hi, hz0, hz1, hz2⟩ := t_info
 clear hR hR0 hMk hBr hSb hsl
 go_enter Tryz.func30, Tryz.ntmps30
 go_upto_region 1 with fail
 have HF1 := Lib.hid H0.out
 generalize ((w.alloc (.cells (rfC s false st.pos st.opened (.slice ca cl cc) (.slice ma ml mc) 0 0) 87)).alloc (.cells rfZ 87)).alloc (.cells zC 36) = w1 at *
 obtain ⟨c0, c1, c2, c3, c4, c5, c6, c7, f0, f1, f2, f3, f4, f5, f6, f7, hl⟩ := blk8 HF1.out.k2
 have hbr := HBr.out _ st _ _ w1 HF1.out.r
 go_wp2_with fail
 with_reducible refine hbr.mono ?_
 clear hbr
 intro e w2 hA
 obtain ⟨at1, op1, cv1, mv1, er1, pl1, d1, a1, cap1, rfl, ⟨ca1, cl1, cc1, rfl⟩, ⟨ma1, ml1, mc1, rfl⟩, ht1, hB1, hD1⟩ := hA.any
 clear hA
 clear c0 c1 c2 c3 c4 c5 c6 c7 f0 f1 f2 f3 f4 f5 f6 f7 hl
 have HFa := Lib.hid (HF1.out.step hB1)
 obtain ⟨c0, c1, c2, c3, c4, c5, c6, c7, f0, f1, f2, f3, f4, f5, f6, f7, hl⟩ := blk8 HFa.out.k2
 go_upto_region 2 with fail
 have HP := Lib.hid (put8 HFa.out.b (Nat.le_refl _) HFa.out.k2 (.string s) (.bool false) (.int .i64 (at1 : Int)) (.int .i64 (op1 : Int)) (.slice ca1 cl1 cc1) (.slice ma1 ml1 mc1) (.int .i64 er1) (.int .i64 pl1) _ rfl)
 have HKa4 := Lib.hid (HFa.out.k4.same (HP.out.2.2.1 _ (by omega)))
 have HKa5 := Lib.hid (HFa.out.k5.same (HP.out.2.2.1 _ (by omega)))
 have hw1 := HF1.out.k5.lt
 have HTa : Hid (TrX (fun b => w.heap.size + 3 ≤ b) ((((((((w2.setCell ⟨w.heap.size, 0, none⟩ (.string s)).setCell ⟨w.heap.size, 1, none⟩ (.bool false)).setCell ⟨w.heap.size, 2, none⟩ (.int .i64 (at1 : Int))).setCell ⟨w.heap.size, 3, none⟩ (.int .i64 (op1 : Int))).setCell ⟨w.heap.size, 4, none⟩ (.slice ca1 cl1 cc1)).setCell ⟨w.heap.size, 5, none⟩ (.slice ma1 ml1 mc1)).setCell ⟨w.heap.size, 6, none⟩ (.int .i64 er1)).setCell ⟨w.heap.size, 7, none⟩ (.int .i64 pl1)) (unc d1) a1 cap1) := Lib.hid (ht1.keep (by rw [HP.out.2.2.2]; exact Nat.le_refl _) (fun b hf _ => ⟨by have := hf.resolve_left id; omega, fun o => World.cell?_of_block (w := w2) (a := ⟨b, o, none⟩) (HP.out.2.2.1 b (by have := hf.resolve_left id; omega))⟩))
 have HRa : Hid (∀ (st2 : ReSt) (cv2 mv2 : Value), RfR (fun b => ((F b ∧ b < w.heap.size) ∨ w.heap.size + 3 ≤ b) ∨ w1.heap.size ≤ b) w2 s st2 cv2 mv2 → RfR (fun b => (F b ∧ b < w.heap.size) ∨ w.heap.size + 3 ≤ b) ((((((((w2.setCell ⟨w.heap.size, 0, none⟩ (.string s)).setCell ⟨w.heap.size, 1, none⟩ (.bool false)).setCell ⟨w.heap.size, 2, none⟩ (.int .i64 (at1 : Int))).setCell ⟨w.heap.size, 3, none⟩ (.int .i64 (op1 : Int))).setCell ⟨w.heap.size, 4, none⟩ (.slice ca1 cl1 cc1)).setCell ⟨w.heap.size, 5, none⟩ (.slice ma1 ml1 mc1)).setCell ⟨w.heap.size, 6, none⟩ (.int .i64 er1)).setCell ⟨w.heap.size, 7, none⟩ (.int .i64 pl1)) s st2 cv2 mv2) := Lib.hid (fun st2 cv2 mv2 h => h.keep (by rw [HP.out.2.2.2]; exact Nat.le_refl _) (fun b hf _ => ⟨hf.elim id (fun h => .inr (by omega)), fun o => World.cell?_of_block (w := w2) (a := ⟨b, o, none⟩) (HP.out.2.2.1 b (by omega))⟩))
 have hzz := HP.out.2.2.2
 rw [← hzz]
 clear ht1 hB1 hw1 hzz
 clear c0 c1 c2 c3 c4 c5 c6 c7 f0 f1 f2 f3 f4 f5 f6 f7 hl
 generalize ((((((((w2.setCell ⟨w.heap.size, 0, none⟩ (.string s)).setCell ⟨w.heap.size, 1, none⟩ (.bool false)).setCell ⟨w.heap.size, 2, none⟩ (.int .i64 (at1 : Int))).setCell ⟨w.heap.size, 3, none⟩ (.int .i64 (op1 : Int))).setCell ⟨w.heap.size, 4, none⟩ (.slice ca1 cl1 cc1)).setCell ⟨w.heap.size, 5, none⟩ (.slice ma1 ml1 mc1)).setCell ⟨w.heap.size, 6, none⟩ (.int .i64 er1)).setCell ⟨w.heap.size, 7, none⟩ (.int .i64 pl1)) = Wa at *
 have HK2 := Lib.hid (HP.out.2.1.alloc (.cells (tC (unc d1) a1 cap1) 36))
 have HK4 := Lib.hid (HKa4.out.alloc (.cells (tC (unc d1) a1 cap1) 36))
 have HK5 := Lib.hid (HKa5.out.alloc (.cells (tC (unc d1) a1 cap1) 36))
 have HB3 := Lib.hid (HP.out.1.alloc HP.out.1.size (.cells (tC (unc d1) a1 cap1) 36))
 have hA3 := (Below.refl Wa.heap.size Wa).alloc (Nat.le_refl _) (.cells (tC (unc d1) a1 cap1) 36)
 have HTb := Lib.hid (HTa.out.below hA3)
 have HQ6 := Lib.hid (Blk.new Wa (tC (unc d1) a1 cap1) 36 Wa.heap.size rfl)
 have hX0 := BrX.first HB3.out HK2.out HK4.out HK5.out HTb.out
 have hsz : (Wa.alloc (.cells (tC (unc d1) a1 cap1) 36)).heap.size = Wa.heap.size + 1 := by simp
 rw [hsz] at hX0
 have HX0 := Lib.hid hX0
 have HRb : Hid (∀ (st2 : ReSt) (cv2 mv2 : Value), RfR (fun b => ((F b ∧ b < w.heap.size) ∨ w.heap.size + 3 ≤ b) ∨ w1.heap.size ≤ b) w2 s st2 cv2 mv2 → RfR (OffF F w (.slice (some ⟨Wa.heap.size + 1, 0, none⟩) 1 1)) ((Wa.alloc (.cells (tC (unc d1) a1 cap1) 36)).alloc (.cells (tC (unc d1) a1 cap1) 36)) s st2 cv2 mv2) := Lib.hid (fun st2 cv2 mv2 h => HX0.out.2 _ _ _ _ ((HRa.out _ _ _ h).below hA3))
 clear hX0 hsz hA3
 obtain ⟨y0, y1, y2, y3, y4, y5, y6, y7, y8, g0, g1, g2, g3, g4, g5, g6, g7, g8, hy⟩ := blk9n HQ6.out
 go_upto_block 0 with fail
 clear y0 y1 y2 y3 y4 y5 y6 y7 y8 g0 g1 g2 g3 g4 g5 g6 g7 g8 hy
 have HXf := Lib.hid HX0.out.1
 clear HX0
 generalize (Wa.alloc (.cells #[.int .i64 (unc d1).kind, .int .u64 (ow (unc d1).set 0), .int .u64 (ow (unc d1).set 1), .int .u64 (ow (unc d1).set 2), .int .u64 (ow (unc d1).set 3), .slice a1 (unc d1).parts.length cap1, .int .i64 (unc d1).mn, .int .i64 (unc d1).mx, .int .i64 (unc d1).num] 36)).alloc (.cells #[.int .i64 (unc d1).kind, .int .u64 (ow (unc d1).set 0), .int .u64 (ow (unc d1).set 1), .int .u64 (ow (unc d1).set 2), .int .u64 (ow (unc d1).set 3), .slice a1 (unc d1).parts.length cap1, .int .i64 (unc d1).mn, .int .i64 (unc d1).mx, .int .i64 (unc d1).num] 36) = W0 at *
 go_cut [7] (fun p7 wx => ChDone F w s false R p7 wx)
 case first =>
  go_wp2_with fail
  go_loopw [7] (fun p7 wr => ChLp F w s false sub (decide (dp = 0)) R p7 wr) (fun _ wr => brMu w s wr)
  case atStart =>
   rcases hD1 with ⟨q, hF, rfl, rfl, rfl, rfl, rfl, hr1⟩ | ⟨q, hF, hq, rfl, rfl, hC⟩
   ·exact .inl ⟨s.data.toList.length, q.1, _, _, [q.2], _, by rw [HR0.out, hF]; rfl, by have := HSl.out; omega, by simp [branch_alt _ _ _ _ _ _ _ _ _ _ _ rfl hF], by simp, ⟨HXf.out, HRb.out _ _ _ hr1⟩⟩
   ·exact .inr ⟨_, _, _, _, [d1], _, q, HXf.out, by simp [hC], by simp, ⟨_, _, _, rfl⟩, ⟨_, _, _, rfl⟩, by rw [HR0.out, hF], hq⟩
  case round =>
   clear hD1
   rcases hrel with hrel | hrel
   ·-- another branch, or none
    obtain ⟨m, st', cv', mv', l, us, hRm, hm, ha, hll, hY⟩ := hrel
    have hpos := hY.r.pos
    have hsm := hY.r.small
    obtain ⟨ca', cl', cc', rfl⟩ := hY.r.c.form
    obtain ⟨ma', ml', mc', rfl⟩ := hY.r.m.form
    have HYr := Lib.hid hY
    have HL := Lib.hid (And.intro ha (And.intro hll (And.intro hm (And.intro hpos hsm))))
    have HSg := Lib.hid (fun w => rsign_any s false st'.pos st'.opened (.slice ca' cl' cc') (.slice ma' ml' mc') 0 0 st'.pos w (by omega))
    have HOp := Lib.hid (fun (b : UInt8) w => rop_f s st'.pos st'.opened (.slice ca' cl' cc') (.slice ma' ml' mc') 0 0 b w)
    obtain ⟨O3, hO3⟩ : ∃ O, O = opAt false s.data.toList st'.pos 124 := ⟨_, rfl⟩
    rw [← hO3] at hRm
    have HRm := Lib.hid hRm
    have HO := Lib.hid (fun (t : ByteArray) (ht : t.data.toList = signL s.data.toList st'.pos) => (show (t.toList == [92, 124]) = O3 by
     rw [hO3]
     cases h : opAt false s.data.toList st'.pos 124 with
     | true => rw [beq_iff_eq]; exact (sgn_es ht 124).2 h
     | false => exact (sgn_no_es ht 124 h).1))
    have HOl := Lib.hid (show O3 = true → st'.pos + 2 ≤ s.size from fun h => by have h9 := op_len (hO3.symm.trans h); simp [opLen] at h9; omega)
    have HSS := Lib.hid (C8.of HYr.out.x.k2)
    clear hY ha hll hm hpos hsm hRm hO3
    go_upto_region 3 with fail
    go_cut [29] (fun s29 wx => s29 = .bool O3 ∧ Below wr.heap.size wr wx)
    case first =>
     go_region_held3 (fun w' => C8 w' w.heap.size (.string s) (.bool false) (.int .i64 (st'.pos : Int)) (.int .i64 (st'.opened : Int)) (.slice ca' cl' cc') (.slice ma' ml' mc') (.int .i64 0) (.int .i64 0))
      (first | (with_reducible exact C8.drew HSS.out) | (with_reducible exact C8.of HX8.out) | (with_reducible exact C8.of HX7.out))
      (first | (go_at_call 56; refine (HSg.out _).mono ?_; rintro e w7 ⟨t7, rfl, ht7, b7⟩; have h7 := HO.out t7 ht7; have hB7 := (by first | exact b7 | exact (Below.refl _ _).drew.trans b7 | exact HB8.out.trans (b7.mono HB8.out.size) : Below wr.heap.size wr w7); have HB7 := Lib.hid hB7; have HX7 := Lib.hid (HYr.out.x.k2.below hB7 HYr.out.x.k2.lt); clear b7 hB7 ht7) | (go_at_call 57; refine (HOp.out _ _).mono ?_; rintro e w8 ⟨rfl, b8⟩; have hB8 := (by first | exact b8 | exact (Below.refl _ _).drew.trans b8 | exact HB7.out.trans (b8.mono HB7.out.size) : Below wr.heap.size wr w8); have HB8 := Lib.hid hB8; have HX8 := Lib.hid (HYr.out.x.k2.below hB8 HYr.out.x.k2.lt); clear b8 hB8))
     all_goals go_wp2_with fail
     all_goals go_meet
     all_goals first
      | exact ⟨rfl, HB8.out⟩
      | exact ⟨rfl, HB7.out⟩
    case rest =>
     obtain ⟨rfl, hb⟩ := hcut
     have HY3 := Lib.hid (HYr.out.step hb)
     clear hb HSS
     obtain ⟨wq, hwq⟩ : ∃ W, W = wc := ⟨_, rfl⟩
     subst hwq
     obtain ⟨c0, c1, c2, c3, c4, c5, c6, c7, f0, f1, f2, f3, f4, f5, f6, f7, hl⟩ := blk8 HY3.out.x.k2
     cases O3 with
     | false =>
      have HRx := Lib.hid (HRm.out.trans (if_neg Bool.false_ne_true))
      go_wp2_with fail
      go_meet
      exact ⟨_, _, _, _, 0, 0, l, us, HY3.out.x, HL.out.1, by have := HL.out; omega, ⟨_, _, _, rfl⟩, ⟨_, _, _, rfl⟩, .inl ⟨rfl, rfl, st', rfl, rfl, HY3.out.r, HRx.out⟩⟩
     | true =>
      obtain ⟨p2, hp2⟩ : ∃ p2, p2 = st'.pos + 2 := ⟨_, rfl⟩
      have hin : p2 ≤ s.size := by rw [hp2]; exact HOl.out rfl
      have HP2 := Lib.hid (And.intro hp2 hin)
      obtain ⟨m0, rfl⟩ : ∃ m0, m = m0 + 1 := ⟨m - 1, by have := HL.out; omega⟩
      obtain ⟨stn, hst⟩ : ∃ x, x = ((st'.mark 124).to p2) := ⟨_, rfl⟩
      have HSt := Lib.hid (show stn.pos = p2 ∧ stn.opened = st'.opened by rw [hst]; exact ⟨rfl, rfl⟩)
      have HRx : Hid (R = match branchM false s.data.toList sub (decide (dp = 0)) stn.pos (s.data.toList.length + 1) stn [] true with
       | .error e => .error e
       | .ok (st1, d) => if opAt false s.data.toList st1.pos 124 then choiceM false s.data.toList sub (decide (dp = 0)) m0 ((if false then st1 else st1.mark 124).to (st1.pos + opLen false)) (l ++ [d]) else .ok (st1, nchoose (l ++ [d]))) := Lib.hid (by
       rw [HRm.out, if_pos rfl, choiceM, hst, hp2]
       rfl)
      have Wn : IntKind.i64.wrap ((st'.pos : Int) + 2) = (p2 : Int) := by have := HL.out; rw [IntWalk.i64_in _ (by omega)]; omega
      have HSq := Lib.hid hst
      clear hp2 hin hst
      have hmk := HMk.out (OffF F w u7) s false st'.pos st'.opened (.slice ca' cl' cc') (.slice ma' ml' mc') st'.marks 124 wq ⟨_, _, _, rfl⟩ HY3.out.r.m (by have := HY3.out.r.ml; have := HL.out; omega)
      go_wp2_with fail
      with_reducible refine hmk.mono ?_
      clear hmk
      rintro e w5 ⟨mvb, rfl, hm5, b5⟩
      obtain ⟨mb', mlb, mcb, rfl⟩ := hm5.form
      have HY5 := Lib.hid (HY3.out.step b5)
      have HBm := Lib.hid b5
      have HM5 := Lib.hid hm5
      clear hm5 b5
      clear c0 c1 c2 c3 c4 c5 c6 c7 f0 f1 f2 f3 f4 f5 f6 f7 hl
      obtain ⟨c0, c1, c2, c3, c4, c5, c6, c7, f0, f1, f2, f3, f4, f5, f6, f7, hl⟩ := blk8 HY5.out.x.k2
      go_upto_region 6 with fail
      have HP5 := Lib.hid (put8 HY5.out.x.b (Nat.le_refl _) HY5.out.x.k2 (.string s) (.bool false) (.int .i64 (st'.pos : Int)) (.int .i64 (st'.opened : Int)) (.slice ca' cl' cc') (.slice mb' mlb mcb) (.int .i64 0) (.int .i64 0) _ rfl)
      have HXq := Lib.hid (HY5.out.x.upd (er2 := 0) (pl2 := 0) (at2 := st'.pos) (op2 := st'.opened) (cv2 := .slice ca' cl' cc') (mv2 := .slice mb' mlb mcb) HP5.out.1 HP5.out.2.1 HP5.out.2.2.1 HP5.out.2.2.2)
      have HRq : Hid (RfR (OffF F w u7) ((((((((w5.setCell ⟨w.heap.size, 0, none⟩ (.string s)).setCell ⟨w.heap.size, 1, none⟩ (.bool false)).setCell ⟨w.heap.size, 2, none⟩ (.int .i64 (st'.pos : Int))).setCell ⟨w.heap.size, 3, none⟩ (.int .i64 (st'.opened : Int))).setCell ⟨w.heap.size, 4, none⟩ (.slice ca' cl' cc')).setCell ⟨w.heap.size, 5, none⟩ (.slice mb' mlb mcb)).setCell ⟨w.heap.size, 6, none⟩ (.int .i64 0)).setCell ⟨w.heap.size, 7, none⟩ (.int .i64 0)) s stn (.slice ca' cl' cc') (.slice mb' mlb mcb)) := Lib.hid (by
       have hP := HP2.out
       have hR := HY5.out.r
       have h1 := hR.cl
       have h2 := hR.ml
       have h3 := hR.op
       have hk : ∀ b, (OffF F w u7 b ∨ wq.heap.size ≤ b) → b < w5.heap.size → OffF F w u7 b ∧ ∀ o, (((((((((w5.setCell ⟨w.heap.size, 0, none⟩ (.string s)).setCell ⟨w.heap.size, 1, none⟩ (.bool false)).setCell ⟨w.heap.size, 2, none⟩ (.int .i64 (st'.pos : Int))).setCell ⟨w.heap.size, 3, none⟩ (.int .i64 (st'.opened : Int))).setCell ⟨w.heap.size, 4, none⟩ (.slice ca' cl' cc')).setCell ⟨w.heap.size, 5, none⟩ (.slice mb' mlb mcb)).setCell ⟨w.heap.size, 6, none⟩ (.int .i64 0)).setCell ⟨w.heap.size, 7, none⟩ (.int .i64 0))).cell? ⟨b, o, none⟩ = w5.cell? ⟨b, o, none⟩ := fun b hf _ => by
        have hb : OffF F w u7 b := hf.elim id (fun h => ⟨.inr (by have := HY3.out.x.k5.lt; omega), HY3.out.x.off b (.inr h)⟩)
        exact ⟨hb, fun o => World.cell?_of_block (w := w5) (a := ⟨b, o, none⟩) (HP5.out.2.2.1 b (by have := hb.1; omega))⟩
       rw [HSq.out]
       refine ⟨hR.c.keep (by rw [HP5.out.2.2.2]; exact Nat.le_refl _) (fun b hf hl => hk b (.inl hf) hl), HM5.out.keep (by rw [HP5.out.2.2.2]; exact Nat.le_refl _) (fun b hf hl => hk b (.inr hf) hl), hP.2, hR.small, ?_, ?_, ?_⟩
       ·show st'.closed.length ≤ p2
        omega
       ·show (st'.marks ++ [(st'.pos, 124)]).length ≤ p2
        rw [List.length_append]
        show st'.marks.length + 1 ≤ p2
        omega
       ·show st'.opened ≤ p2
        omega)
      clear c0 c1 c2 c3 c4 c5 c6 c7 f0 f1 f2 f3 f4 f5 f6 f7 hl
      generalize ((((((((w5.setCell ⟨w.heap.size, 0, none⟩ (.string s)).setCell ⟨w.heap.size, 1, none⟩ (.bool false)).setCell ⟨w.heap.size, 2, none⟩ (.int .i64 (st'.pos : Int))).setCell ⟨w.heap.size, 3, none⟩ (.int .i64 (st'.opened : Int))).setCell ⟨w.heap.size, 4, none⟩ (.slice ca' cl' cc')).setCell ⟨w.heap.size, 5, none⟩ (.slice mb' mlb mcb)).setCell ⟨w.heap.size, 6, none⟩ (.int .i64 0)).setCell ⟨w.heap.size, 7, none⟩ (.int .i64 0)) = Wm at *
      obtain ⟨c0, c1, c2, c3, c4, c5, c6, c7, f0, f1, f2, f3, f4, f5, f6, f7, hl⟩ := blk8 HXq.out.k2
      go_cut [] (fun wx => BrY F w s false wx stn (.slice ca' cl' cc') (.slice mb' mlb mcb) l u7 us)
      case first =>
       have HOp2 := Lib.hid (fun (b : UInt8) w => rop_f s st'.pos st'.opened (.slice ca' cl' cc') (.slice mb' mlb mcb) 0 0 b w)
       have hbs : (⟨#[92, 124]⟩ : ByteArray).size = 2 := rfl
       go_region_law (first | (go_simp; go_at_call 57; refine (HOp2.out _ _).mono ?_; rintro e w8 ⟨rfl, b8⟩; have hB8 := (by first | exact b8 | exact (Below.refl _ _).drew.trans b8 : Below Wm.heap.size Wm w8); have HX8 := Lib.hid (HXq.out.step hB8); have HR8 := Lib.hid (HRq.out.below hB8); clear b8 hB8; clear c0 c1 c2 c3 c4 c5 c6 c7 f0 f1 f2 f3 f4 f5 f6 f7 hl; obtain ⟨c0, c1, c2, c3, c4, c5, c6, c7, f0, f1, f2, f3, f4, f5, f6, f7, hl⟩ := blk8 HX8.out.k2))
       all_goals go_wp2_with fail
       all_goals go_meet
       all_goals
        have hYz := HX8.out.put (st2 := stn) HR8.out (HX8.out.b.setCell (p := ⟨w.heap.size, 2, none⟩) (Nat.le_refl _) (.int .i64 (p2 : Int))) ((HX8.out.k2.set 2 (.int .i64 (p2 : Int))).eqv (by rw [HSt.out.1, HSt.out.2]; simp)) (fun b hb => far_set _ _ _ _ hb) (by simp [World.setCell])
        first
         | exact hYz
         | exact hYz.step (Below.refl _ _).drew
      case rest =>
       have HYn := Lib.hid hcut
       clear hcut
       obtain ⟨wx8, hw8⟩ : ∃ W, W = wc := ⟨_, rfl⟩
       subst hw8
       have hpn := HYn.out.r.pos
       have hbr := HBr.out (OffF F w u7) stn _ _ wx8 HYn.out.r
       clear c0 c1 c2 c3 c4 c5 c6 c7 f0 f1 f2 f3 f4 f5 f6 f7 hl
       obtain ⟨c0, c1, c2, c3, c4, c5, c6, c7, f0, f1, f2, f3, f4, f5, f6, f7, hl⟩ := blk8 HYn.out.x.k2
       go_wp2_with fail
       with_reducible refine hbr.mono ?_
       clear hbr
       intro e w6 hA
       obtain ⟨at3, op3, cv3, mv3, er3, pl3, d3, a3, cap3, rfl, ⟨ca3, cl3, cc3, rfl⟩, ⟨ma3, ml3, mc3, rfl⟩, ht3, hB3, hD3⟩ := hA.any
       clear hA
       have HYa := Lib.hid (HYn.out.step hB3)
       have hBw : Hid (w.heap.size + 3 ≤ wx8.heap.size ∧ wx8.heap.size ≤ w6.heap.size) := Lib.hid ⟨by have := HYn.out.x.k5.lt; omega, hB3.size⟩
       have HOf := Lib.hid (fun b (hb : wx8.heap.size ≤ b) => HYn.out.x.off b (.inr hb))
       clear c0 c1 c2 c3 c4 c5 c6 c7 f0 f1 f2 f3 f4 f5 f6 f7 hl
       obtain ⟨c0, c1, c2, c3, c4, c5, c6, c7, f0, f1, f2, f3, f4, f5, f6, f7, hl⟩ := blk8 HYa.out.x.k2
       go_upto_region 8 with fail
       have hAA := ((Below.refl w6.heap.size w6).alloc (Nat.le_refl _) (.cells (rfC s false at3 op3 (.slice ca3 cl3 cc3) (.slice ma3 ml3 mc3) er3 pl3) 87)).alloc (by simp) (.cells (tC (unc d3) a3 cap3) 36)
       have HYb := Lib.hid (HYa.out.step hAA)
       have HQ10 := Lib.hid ((Blk.new w6 (rfC s false at3 op3 (.slice ca3 cl3 cc3) (.slice ma3 ml3 mc3) er3 pl3) 87 w6.heap.size rfl).alloc (.cells (tC (unc d3) a3 cap3) 36))
       have HQ11 := Lib.hid (Blk.new (w6.alloc (.cells (rfC s false at3 op3 (.slice ca3 cl3 cc3) (.slice ma3 ml3 mc3) er3 pl3) 87)) (tC (unc d3) a3 cap3) 36 (w6.heap.size + 1) (by simp))
       have HT7 : Hid (TrX (fun b => wx8.heap.size ≤ b ∧ b < w6.heap.size) ((w6.alloc (.cells (rfC s false at3 op3 (.slice ca3 cl3 cc3) (.slice ma3 ml3 mc3) er3 pl3) 87)).alloc (.cells (tC (unc d3) a3 cap3) 36)) (unc d3) a3 cap3) := Lib.hid (ht3.keep hAA.size (fun b hf hlt => ⟨⟨hf.resolve_left id, hlt⟩, fun o => hAA.cell (p := ⟨b, o, none⟩) hlt⟩))
       have HR7 : Hid (∀ (st2 : ReSt) (cv2 mv2 : Value), RfR (fun b => OffF F w u7 b ∨ wx8.heap.size ≤ b) w6 s st2 cv2 mv2 → RfR (fun b => OffF F w u7 b ∧ b < w6.heap.size) ((w6.alloc (.cells (rfC s false at3 op3 (.slice ca3 cl3 cc3) (.slice ma3 ml3 mc3) er3 pl3) 87)).alloc (.cells (tC (unc d3) a3 cap3) 36)) s st2 cv2 mv2) := Lib.hid (fun st2 cv2 mv2 h => (HYn.out.x.back h).keep hAA.size (fun b hf hlt => ⟨⟨hf, hlt⟩, fun o => hAA.cell (p := ⟨b, o, none⟩) hlt⟩))
       clear ht3 hAA hB3
       clear c0 c1 c2 c3 c4 c5 c6 c7 f0 f1 f2 f3 f4 f5 f6 f7 hl
       generalize (w6.alloc (.cells (rfC s false at3 op3 (.slice ca3 cl3 cc3) (.slice ma3 ml3 mc3) er3 pl3) 87)).alloc (.cells (tC (unc d3) a3 cap3) 36) = w7 at *
       generalize w6.heap.size = q10 at *
       obtain ⟨c0, c1, c2, c3, c4, c5, c6, c7, f0, f1, f2, f3, f4, f5, f6, f7, hl⟩ := blk8 HQ10.out
       obtain ⟨x0, x1, x2, x3, x4, x5, x6, x7, y0, y1, y2, y3, y4, y5, y6, y7, hx⟩ := blk8 HYb.out.x.k2
       go_upto_region 9 with fail
       have HP8 := Lib.hid (put8 HYb.out.x.b (Nat.le_refl _) HYb.out.x.k2 (.string s) (.bool false) (.int .i64 (at3 : Int)) (.int .i64 (op3 : Int)) (.slice ca3 cl3 cc3) (.slice ma3 ml3 mc3) (.int .i64 er3) (.int .i64 pl3) _ rfl)
       have HXu := Lib.hid (HYb.out.x.upd (er2 := er3) (pl2 := pl3) (at2 := at3) (op2 := op3) (cv2 := .slice ca3 cl3 cc3) (mv2 := .slice ma3 ml3 mc3) HP8.out.1 HP8.out.2.1 HP8.out.2.2.1 HP8.out.2.2.2)
       have HQ11b := Lib.hid (HQ11.out.same (HP8.out.2.2.1 _ (by have := hBw.out; omega)))
       clear c0 c1 c2 c3 c4 c5 c6 c7 f0 f1 f2 f3 f4 f5 f6 f7 hl
       clear x0 x1 x2 x3 x4 x5 x6 x7 y0 y1 y2 y3 y4 y5 y6 y7 hx
       generalize ((((((((w7.setCell ⟨w.heap.size, 0, none⟩ (.string s)).setCell ⟨w.heap.size, 1, none⟩ (.bool false)).setCell ⟨w.heap.size, 2, none⟩ (.int .i64 (at3 : Int))).setCell ⟨w.heap.size, 3, none⟩ (.int .i64 (op3 : Int))).setCell ⟨w.heap.size, 4, none⟩ (.slice ca3 cl3 cc3)).setCell ⟨w.heap.size, 5, none⟩ (.slice ma3 ml3 mc3)).setCell ⟨w.heap.size, 6, none⟩ (.int .i64 er3)).setCell ⟨w.heap.size, 7, none⟩ (.int .i64 pl3)) = W at *
       have HRk : Hid (∀ (st2 : ReSt) (cv2 mv2 : Value), RfR (fun b => OffF F w u7 b ∧ b < q10) w7 s st2 cv2 mv2 → RfR (OffF F w u7) W s st2 cv2 mv2) := Lib.hid (fun st2 cv2 mv2 h => h.keep (by rw [HP8.out.2.2.2]; exact Nat.le_refl _) (fun b hf _ => ⟨hf.1, fun o => World.cell?_of_block (w := w7) (a := ⟨b, o, none⟩) (HP8.out.2.2.1 b (by have := hf.1.1; omega))⟩))
       have HTv : Hid (TrX (fun b => w.heap.size + 3 ≤ b ∧ OffV u7 b) W (unc d3) a3 cap3) := Lib.hid (HT7.out.keep (by rw [HP8.out.2.2.2]; exact Nat.le_refl _) (fun b hf _ => ⟨⟨by have := hf.1; have := hBw.out; omega, HOf.out b hf.1⟩, fun o => World.cell?_of_block (w := w7) (a := ⟨b, o, none⟩) (HP8.out.2.2.1 b (by have := hf.1; have := hBw.out; omega))⟩))
       obtain ⟨y0, y1, y2, y3, y4, y5, y6, y7, y8, g0, g1, g2, g3, g4, g5, g6, g7, g8, hy⟩ := blk9n HQ11b.out
       have hO3 := HXu.out.o.1
       rw [List.length_map] at hO3
       have hA := (Below.refl W.heap.size W).alloc (Nat.le_refl _) (.cells (tC (unc d3) a3 cap3) 36)
       have HOA := Lib.hid (nd_own_below hO3 hA)
       have HNw := Lib.hid (news_new W (unc d3) a3 cap3 36 W.heap.size rfl)
       have hv1 := (Chunks.single HTv.out).one
       have hlen : l.length + 1 ≤ 252 := by have := HL.out; omega
       have hm1 : l.length + 1 ≤ maxLen := by unfold maxLen; omega
       have hm2 : (l.length + 1) * 88 ≤ 140737488355328 := by omega
       have hlw := HXu.out.k5.lt
       clear hO3 hA hlen
       go_wp2_with (at_builtin; refine wpList_append_any _ rfl _ _ 34 rfl (w.heap.size + 3) 36 i0 (.agg zC) 9 88 Tryz.underlying34 hi hz0 hz1 hz2 rfl (by decide) u7 l.length us rfl HOA.out (some ⟨W.heap.size, 0, none⟩) 1 1 (tC (unc d3) a3 cap3).toList rfl rfl (fun _ => ⟨_, rfl, HNw.out⟩) hv1 hm1 hm2 (by simp; omega) ?_; intro v6 w10 hown6 hgrow6 hat6; have HXn := Lib.hid (HXu.out.addn HTv.out hown6 hgrow6 hat6); clear hown6 hgrow6 hat6 y0 y1 y2 y3 y4 y5 y6 y7 y8 g0 g1 g2 g3 g4 g5 g6 g7 g8 hy; obtain ⟨c0, c1, c2, c3, c4, c5, c6, c7, f0, f1, f2, f3, f4, f5, f6, f7, hl⟩ := blk8 HXn.out.1.k2)
       clear c0 c1 c2 c3 c4 c5 c6 c7 f0 f1 f2 f3 f4 f5 f6 f7 hl
       have HGo : Hid (ChLp F w s false sub (decide (dp = 0)) R v6 w10 ∧ (if er3 = 0 then s.size + 1 - at3 else 0) < s.size + 1 - st'.pos) := Lib.hid (by
        have hL := HL.out
        have hP2 := HP2.out
        have hSt := HSt.out
        have hsl := HSl.out
        rcases hD3 with ⟨q, hF, rfl, rfl, rfl, rfl, rfl, hr3⟩ | ⟨q, hF, hq, rfl, rfl, hC⟩
        ·have hmv := branch_mv false s.data.toList sub HSb.out _ _ _ stn [] true q.1 q.2 (by omega) hF
         refine ⟨.inl ⟨m0, q.1, _, _, l ++ [q.2], _, by rw [HRx.out, hF] <;> rfl, by omega, by rw [List.all_append, hL.1]; simp [branch_alt _ _ _ _ _ _ _ _ _ _ _ rfl hF], by rw [List.length_append]; show l.length + 1 ≤ _; omega, ⟨HXn.out.1, HXn.out.2 _ _ _ _ (HRk.out _ _ _ (HR7.out _ _ _ hr3))⟩⟩, ?_⟩
         rw [if_pos rfl]
         omega
        ·refine ⟨.inr ⟨_, _, _, _, l ++ [d3], _, q, HXn.out.1, by rw [List.all_append, hL.1]; simp [hC], by rw [List.length_append]; show l.length + 1 ≤ _; omega, ⟨_, _, _, rfl⟩, ⟨_, _, _, rfl⟩, by rw [HRx.out, hF], hq⟩, ?_⟩
         rw [if_neg (fun h => hq (by simpa using h))]
         omega)
       go_roundw
       case rel => exact HGo.out.1
       case measure =>
        rw [HXn.out.1.mu, HYr.out.x.mu]
        exact HGo.out.2
   ·obtain ⟨at', op, cv', mv', l, us, q, hX, ha, hll, ⟨ca', cl', cc', rfl⟩, ⟨ma', ml', mc', rfl⟩, hRe, hq⟩ := hrel
    have HX := Lib.hid hX
    have HQ := Lib.hid (And.intro ha (And.intro hll (And.intro hRe hq)))
    have e9 : ((q.1 : Int) == 0) = false := by rw [beq_eq_false_iff_ne]; exact fun h => hq (by simpa using h)
    have e9' : ¬ (q.1 : Int) = 0 := fun h => hq (by simpa using h)
    clear hX ha hll hRe hq
    obtain ⟨c0, c1, c2, c3, c4, c5, c6, c7, f0, f1, f2, f3, f4, f5, f6, f7, hl⟩ := blk8 HX.out.k2
    go_upto_region 3 with fail
    go_cut [29] (fun s29 wx => s29 = .bool false ∧ Below wr.heap.size wr wx)
    case first =>
     go_quiet (fail)
     go_wp2_with fail
     go_meet
     exact ⟨rfl, below_drewN (Below.refl _ _) nq⟩
    case rest =>
     obtain ⟨rfl, hb⟩ := hcut
     have HX2 := Lib.hid (HX.out.step hb)
     clear hb
     go_wp2_with fail
     go_meet
     exact ⟨_, _, _, _, _, _, l, us, HX2.out, HQ.out.1, HQ.out.2.1, ⟨_, _, _, rfl⟩, ⟨_, _, _, rfl⟩, .inr ⟨q, HQ.out.2.2.1, HQ.out.2.2.2, rfl, rfl⟩⟩
 case rest =>
  obtain ⟨at', op, cv', mv', er, pl, l, us, hX, ha, hll, ⟨ca', cl', cc', rfl⟩, ⟨ma', ml', mc', rfl⟩, hD⟩ := hcut
  obtain ⟨ra, rcap, rfl, hrow⟩ := hX.o.row
  have HX := Lib.hid hX
  have HD := Lib.hid hD
  have hJn : ∀ w', Below wc.heap.size wc w' → Calls Tryz.prog 59 #[.slice ra (l.map unc).length rcap] w' fun e w'' => ∃ a' cap', e = .returned (.agg (tC (unc (nchoose l)) a' cap')) ∧ TrX (fun b => w.heap.size + 3 ≤ b) w'' (unc (nchoose l)) a' cap' ∧ Below w'.heap.size w' w'' := fun w' hb =>
   (rchoose_f (l.map unc) ra rcap w' (hrow.below hb) (by rw [tcflat_alt l ha, List.length_map]; omega) (by rw [List.length_map]; omega)).mono fun e w'' ⟨a', cap', h1, h2, h3⟩ => by
    rw [unc_nchoose l ha] at h1 h2
    exact ⟨a', cap', h1, h2.keep (Nat.le_refl _) (fun b hf _ => ⟨by have := hX.k5.lt; have := hb.size; omega, fun _ => rfl⟩), h3⟩
  have HJn := Lib.hid hJn
  have HSS := Lib.hid (C8.of hX.k2)
  clear hX hD hJn hrow ha hll
  obtain ⟨c0, c1, c2, c3, c4, c5, c6, c7, f0, f1, f2, f3, f4, f5, f6, f7, hl⟩ := blk8 HX.out.k2
  go_upto_region 10 with fail
  clear c0 c1 c2 c3 c4 c5 c6 c7 f0 f1 f2 f3 f4 f5 f6 f7 hl
  generalize hrv : Value.slice ra (l.map unc).length rcap = rv at *
  clear hrv
  have hn1 : w.heap.size ≠ w.heap.size + 1 := by omega
  have hn3 : w.heap.size ≠ w.heap.size + 1 + 1 := by omega
  go_region_held3 (fun w' => C8 w' w.heap.size (.string s) (.bool false) (.int .i64 (at' : Int)) (.int .i64 (op : Int)) (.slice ca' cl' cc') (.slice ma' ml' mc') (.int .i64 er) (.int .i64 pl))
   (first | (with_reducible exact C8.of HL31.out.k2) | (with_reducible exact C8.drew HSS.out) | (with_reducible exact C8.put8 (by assumption) hn1) | (with_reducible exact C8.put9 (by assumption) hn3))
   (first | (go_at_call 59; refine (HJn.out _ (by first | exact Below.refl _ _ | exact (Below.refl _ _).drew)).mono ?_; rintro e w31 ⟨a9, cap9, rfl, ht31, b31⟩; have hb31 := (by first | exact b31 | exact (Below.refl _ _).drew.trans b31 : Below wc.heap.size wc w31); have hL31 := HX.out.step hb31; have HL31 := Lib.hid hL31; have HB31 := Lib.hid hb31; have HT31 := Lib.hid ht31; clear b31 hb31 ht31; obtain ⟨x0, x1, x2, x3, x4, x5, x6, x7, y0, y1, y2, y3, y4, y5, y6, y7, hx⟩ := blk8 hL31.k4; obtain ⟨z0, z1, z2, z3, z4, z5, z6, z7, z8, v0, v1, v2, v3, v4, v5, v6, v7, v8, hz⟩ := blk9n hL31.k5; clear hL31))
  all_goals
   go_wp2_with fail
   first
    | (with_reducible refine post17 HL31.out.b HL31.out.k4 HL31.out.k5 ?_ ?_ ?_ ?_)
    | (with_reducible refine post17d HL31.out.b HL31.out.k4 HL31.out.k5 ?_ ?_ ?_ rfl ?_)
   ·omega
   ·omega
   ·omega
   intro w9 hB9 hk9 hj9 hs9 hz9
   have HA := Lib.hid (show RfAns F (fun _ => False) (fun _ => true) false s R w (.returned (.tuple #[.agg (rfC s false at' op (.slice ca' cl' cc') (.slice ma' ml' mc') er pl), .agg (tC (unc (nchoose l)) a9 cap9)])) w9 by
    rcases HD.out with ⟨rfl, rfl, st2, rfl, rfl, hr2, hRe⟩ | ⟨q, hRe, hq, rfl, rfl⟩
    ·exact BrX.ok hr2 HB31.out hRe HT31.out hB9 hs9 hz9
    ·exact BrX.err ⟨_, _, _, rfl⟩ ⟨_, _, _, rfl⟩ hRe hq rfl HT31.out hB9 hs9 hz9)
   clear x0 x1 x2 x3 x4 x5 x6 x7 y0 y1 y2 y3 y4 y5 y6 y7 hx z0 z1 z2 z3 z4 z5 z6 z7 z8 v0 v1 v2 v3 v4 v5 v6 v7 v8 hz
   obtain ⟨x0, x1, x2, x3, x4, x5, x6, x7, _⟩ := blk8 hk9
   obtain ⟨z0, z1, z2, z3, z4, z5, z6, z7, z8, _⟩ := blk9n hj9
   refine bodyPost_ret (v := .tuple #[.agg (rfC s false at' op (.slice ca' cl' cc') (.slice ma' ml' mc') er pl), .agg (tC (unc (nchoose l)) a9 cap9)]) (by simp [results, Tryz.results30, go_sem, x0, x1, x2, x3, x4, x5, x6, x7, z0, z1, z2, z3, z4, z5, z6, z7, z8]) rfl ?_
   first | exact HA.out | exact HA.out.drew
end Go.Proofs.YtkejeiopfblkgaaGreatDoor
