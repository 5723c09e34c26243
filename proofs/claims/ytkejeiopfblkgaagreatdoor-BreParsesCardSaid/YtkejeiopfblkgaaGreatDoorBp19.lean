/- The proof's texts RfSF: what the claim reaches of them. -/
import Derived.Test.YtkejeiopfblkgaaGreatDoorBp15
import Derived.Test.YtkejeiopfblkgaaGreatDoorBp18
import Derived.Deep.CutBlock
import Derived.Deep.DeepCutAuto
namespace Go.Proofs.YtkejeiopfblkgaaGreatDoor
open Go Go.RowKit
set_option linter.unusedSimpArgs false in
set_option maxRecDepth 100000 in
set_option maxHeartbeats 40000000 in
/-- A branch. -/
theorem rbranch_f (hMk : RMarkOk) {F : Nat → Prop} {s : ByteArray} {st : ReSt} {cv mv : Value} (w : World) (dp : Nat) (sub : Option (ReSt → ReRes (ReSt × Nd))) (hAt : RAtOk false s sub dp) (hSb : SubMv s.data.toList sub) (hR : RfR F w s st cv mv) :
  Calls Tryz.prog 55 #[.agg (rfC s false st.pos st.opened cv mv 0 0), .int .i64 (dp : Int)] w (RfAns F (fun _ => False) inAlt false s (branchM false s.data.toList sub (decide (dp = 0)) st.pos (s.data.toList.length + 1) st [] true) w) := by
 obtain ⟨R, hR0⟩ : ∃ R, R = branchM false s.data.toList sub (decide (dp = 0)) st.pos (s.data.toList.length + 1) st [] true := ⟨_, rfl⟩
 rw [← hR0]
 have hsl : s.data.toList.length = s.size := by simp
 have hm0 : s.size < s.data.toList.length + 1 + st.pos := by omega
 obtain ⟨ca, cl, cc, rfl⟩ := hR.c.form
 obtain ⟨ma, ml, mc, rfl⟩ := hR.m.form
 obtain ⟨top, htop⟩ : ∃ top, top = decide (dp = 0) := ⟨_, rfl⟩
 rw [← htop] at hR0
 obtain ⟨beg, hbeg⟩ : ∃ beg, beg = st.pos := ⟨_, rfl⟩
 have hRb : R = branchM false s.data.toList sub top beg (s.data.toList.length + 1) st [] true := by rw [hbeg]; exact hR0
 have H0 := Lib.hid (BrY.begin (ere := false) hR)
 have HR0 := Lib.hid hRb
 have hbi : (st.pos : Int) = (beg : Int) := by rw [hbeg]
 have HTop := Lib.hid htop
 have HM := Lib.hid hm0
 have HMk := Lib.hid hMk
 have HAt := Lib.hid hAt
 have HSb := Lib.hid hSb
 have HSl := Lib.hid hsl
 obtain ⟨i0, hi, hz0, hz1, hz2⟩ := t_info
 clear hR hR0 hMk hAt hSb hm0 hRb hbeg htop hsl
 go_enter Tryz.func55, Tryz.ntmps55
 go_upto_region 1 with fail
 have HY1 := Lib.hid H0.out
 generalize ((w.alloc (.cells (rfC s false st.pos st.opened (.slice ca cl cc) (.slice ma ml mc) 0 0) 87)).alloc (.cells rfZ 87)).alloc (.cells zC 36) = w1 at *
 obtain ⟨c0, c1, c2, c3, c4, c5, c6, c7, f0, f1, f2, f3, f4, f5, f6, f7, hl⟩ := blk8 HY1.out.x.k2
 rw [hbi] at c2
 clear hbi
 go_upto_block 0 with fail
 go_cut [6] (fun p6 wx => BrDone F w s false R p6 wx)
 case first =>
  go_wp2_with fail
  clear c0 c1 c2 c3 c4 c5 c6 c7 f0 f1 f2 f3 f4 f5 f6 f7 hl
  go_loopw [6, 8] (fun p6 f8 wr => BrLp F w s false sub top beg R p6 f8 wr) (fun _ _ wr => brMu w s wr)
  case atStart => exact .inl ⟨_, _, _, _, [], [], true, rfl, HR0.out, HM.out, rfl, Nat.zero_le _, HY1.out⟩
  case round =>
   rcases hrel with hrel | hrel
   ·-- a sign is read
    obtain ⟨m, st', cv', mv', l, us, front, rfl, hRm, hm, ha, hll, hY⟩ := hrel
    have hpos := hY.r.pos
    have hsm := hY.r.small
    obtain ⟨ca', cl', cc', rfl⟩ := hY.r.c.form
    obtain ⟨ma', ml', mc', rfl⟩ := hY.r.m.form
    obtain ⟨m0, rfl⟩ : ∃ m0, m = m0 + 1 := ⟨m - 1, by omega⟩
    have HYr := Lib.hid hY
    have HL := Lib.hid (And.intro ha (And.intro hll (And.intro hm (And.intro hpos hsm))))
    have HSg := Lib.hid (fun w => rsign_any s false st'.pos st'.opened (.slice ca' cl' cc') (.slice ma' ml' mc') 0 0 st'.pos w (by omega))
    have HOp := Lib.hid (fun (b : UInt8) w => rop_f s st'.pos st'.opened (.slice ca' cl' cc') (.slice ma' ml' mc') 0 0 b w)
    rw [branchM] at hRm
    obtain ⟨O6, hO6⟩ : ∃ O, O = (decide (s.data.toList.length ≤ st'.pos) || opAt false s.data.toList st'.pos 124 || (opAt false s.data.toList st'.pos 41 && !top)) := ⟨_, rfl⟩
    obtain ⟨O7, hO7⟩ : ∃ O, O = (chAt s.data.toList st'.pos 94 && (false || decide (st'.pos = beg))) := ⟨_, rfl⟩
    obtain ⟨O11, hO11⟩ : ∃ O, O = (chAt s.data.toList st'.pos 36 && (false || endsAt s.data.toList (st'.pos + 1))) := ⟨_, rfl⟩
    obtain ⟨O15, hO15⟩ : ∃ O, O = (front && (opAt false s.data.toList st'.pos 123 || opAt false s.data.toList st'.pos 43 || opAt false s.data.toList st'.pos 63 || (false && chAt s.data.toList st'.pos 42))) := ⟨_, rfl⟩
    rw [← hO6, ← hO7, ← hO11, ← hO15] at hRm
    have HRm := Lib.hid hRm
    have HO6 := Lib.hid hO6
    have HO7 := Lib.hid hO7
    have HO11 := Lib.hid hO11
    have HO15 := Lib.hid hO15
    clear hY ha hll hm hpos hsm hRm hO6 hO7 hO11 hO15
    obtain ⟨c0, c1, c2, c3, c4, c5, c6, c7, f0, f1, f2, f3, f4, f5, f6, f7, hl⟩ := blk8 HYr.out.x.k2
    go_wp2_with fail
    with_reducible refine (HSg.out _).mono ?_
    rintro e w2 ⟨t, rfl, ht, b2⟩
    have HY2 := Lib.hid (HYr.out.step b2)
    have ht := Lib.hid ht
    clear b2
    clear c0 c1 c2 c3 c4 c5 c6 c7 f0 f1 f2 f3 f4 f5 f6 f7 hl
    obtain ⟨c0, c1, c2, c3, c4, c5, c6, c7, f0, f1, f2, f3, f4, f5, f6, f7, hl⟩ := blk8 HY2.out.x.k2
    go_upto_region 6 with fail
    go_cut [38] (fun s38 wx => s38 = .bool O6 ∧ Below w2.heap.size w2 wx)
    case first =>
     by_cases h0 : s.data.toList.length ≤ st'.pos
     ·have e0 : t.toList = [] := (sgn_end ht.out).2 h0
      have hO := Lib.hid (show O6 = true by rw [HO6.out, decide_eq_true h0]; rfl)
      clear h0
      go_wp2_with fail
      go_meet
      exact ⟨by rw [hO.out], Below.refl _ _⟩
     ·obtain ⟨n0, n0'⟩ := sgn_no_end ht.out h0
      cases h1 : opAt false s.data.toList st'.pos 124 with
      | true =>
       have e1 := (sgn_es ht.out 124).2 h1
       have hO := Lib.hid (show O6 = true by rw [HO6.out, h1]; simp)
       clear h0 h1
       go_wp2_with fail
       with_reducible refine (HOp.out _ _).mono ?_
       rintro e w12 ⟨rfl, b12⟩
       have HY12 := Lib.hid (HY2.out.step b12)
       have HB12 : Hid (Below w2.heap.size w2 w12) := Lib.hid (b12)
       clear b12
       clear c0 c1 c2 c3 c4 c5 c6 c7 f0 f1 f2 f3 f4 f5 f6 f7 hl
       obtain ⟨c0, c1, c2, c3, c4, c5, c6, c7, f0, f1, f2, f3, f4, f5, f6, f7, hl⟩ := blk8 HY12.out.x.k2
       go_wp2_with fail
       go_meet
       exact ⟨by rw [hO.out], HB12.out⟩
      | false =>
       obtain ⟨n1, n1'⟩ := sgn_no_es ht.out 124 h1
       have h00 := decide_eq_false h0
       go_wp2_with fail
       with_reducible refine (HOp.out _ _).mono ?_
       rintro e w12 ⟨rfl, b12⟩
       have HY12 := Lib.hid (HY2.out.step b12)
       have HB12 : Hid (Below w2.heap.size w2 w12) := Lib.hid (b12)
       clear b12
       clear c0 c1 c2 c3 c4 c5 c6 c7 f0 f1 f2 f3 f4 f5 f6 f7 hl
       obtain ⟨c0, c1, c2, c3, c4, c5, c6, c7, f0, f1, f2, f3, f4, f5, f6, f7, hl⟩ := blk8 HY12.out.x.k2
       go_wp2_with fail
       with_reducible refine (HOp.out _ _).mono ?_
       rintro e w13 ⟨rfl, b13⟩
       have HY13 := Lib.hid (HY12.out.step b13)
       have HB13 : Hid (Below w2.heap.size w2 w13) := Lib.hid (HB12.out.trans (b13.mono HB12.out.size))
       clear b13
       clear c0 c1 c2 c3 c4 c5 c6 c7 f0 f1 f2 f3 f4 f5 f6 f7 hl
       obtain ⟨c0, c1, c2, c3, c4, c5, c6, c7, f0, f1, f2, f3, f4, f5, f6, f7, hl⟩ := blk8 HY13.out.x.k2
       cases h2 : opAt false s.data.toList st'.pos 41 with
       | true =>
        have e2 := (sgn_es ht.out 41).2 h2
        by_cases hd : dp = 0
        ·have hd1 : decide ((0 : Int) < (dp : Int)) = false := decide_eq_false (by omega)
         have hd2 : ¬ (0 : Int) < (dp : Int) := by omega
         have hd3 : ¬ 0 < dp := by omega
         have hO := Lib.hid (show O6 = false by rw [HO6.out, h00, h1, h2, HTop.out, decide_eq_true hd]; rfl)
         clear h0 h1 h2 h00 hd
         go_wp2_with fail
         go_meet
         exact ⟨by rw [hO.out], HB13.out⟩
        ·have hd1 : decide ((0 : Int) < (dp : Int)) = true := decide_eq_true (by omega)
         have hd2 : (0 : Int) < (dp : Int) := by omega
         have hd3 : 0 < dp := by omega
         have hO := Lib.hid (show O6 = true by rw [HO6.out, h00, h1, h2, HTop.out, decide_eq_false hd]; rfl)
         clear h0 h1 h2 h00 hd
         go_wp2_with fail
         go_meet
         exact ⟨by rw [hO.out], HB13.out⟩
       | false =>
        obtain ⟨n2, n2'⟩ := sgn_no_es ht.out 41 h2
        have hO := Lib.hid (show O6 = false by rw [HO6.out, h00, h1, h2]; rfl)
        clear h0 h1 h2 h00
        go_wp2_with fail
        go_meet
        exact ⟨by rw [hO.out], HB13.out⟩
    case rest =>
     obtain ⟨rfl, hb⟩ := hcut
     have HY4 := Lib.hid (HY2.out.step hb)
     clear hb
     obtain ⟨wx4, hw4⟩ : ∃ W, W = wc := ⟨_, rfl⟩
     subst hw4
     clear c0 c1 c2 c3 c4 c5 c6 c7 f0 f1 f2 f3 f4 f5 f6 f7 hl
     cases O6 with
     | true =>
      have HRx := Lib.hid (show R = .ok (st', njoin l) from HRm.out.trans (if_pos rfl))
      go_wp2_with fail
      go_meet
      exact HY4.out.done HL.out.1 (by have := HL.out; omega) HRx.out
     | false =>
      have HRn := Lib.hid (HRm.out.trans (if_neg Bool.false_ne_true))
      clear HRm
      have HRm := HRn
      clear HRn
      obtain ⟨p2, hp2⟩ : ∃ p2, p2 = st'.pos + 1 := ⟨_, rfl⟩
      have Wp : IntKind.i64.wrap ((st'.pos : Int) + 1) = (p2 : Int) := by have := HL.out; rw [IntWalk.i64_in _ (by omega)]; omega
      have HP2 := Lib.hid hp2
      clear hp2
      obtain ⟨c0, c1, c2, c3, c4, c5, c6, c7, f0, f1, f2, f3, f4, f5, f6, f7, hl⟩ := blk8 HY4.out.x.k2
      go_upto_region 7 with fail
      go_cut [50] (fun s50 wx => s50 = .bool O7 ∧ wx = wx4)
      case first =>
       cases h1 : chAt s.data.toList st'.pos 94 with
       | true =>
        have e1 := (sgn_ch ht.out 94 (by decide)).2 h1
        by_cases hb : st'.pos = beg
        ·have eb : ((st'.pos : Int) == (beg : Int)) = true := by rw [hb]; exact beq_self_eq_true _
         have eb' : (st'.pos : Int) = (beg : Int) := by rw [hb]
         have hO := Lib.hid (show O7 = true by rw [HO7.out, h1, decide_eq_true hb]; rfl)
         clear h1 hb
         go_wp2_with fail
         go_meet
         exact ⟨by rw [hO.out], rfl⟩
        ·have eb : ((st'.pos : Int) == (beg : Int)) = false := by rw [beq_eq_false_iff_ne]; omega
         have eb' : ¬ (st'.pos : Int) = (beg : Int) := by omega
         have hO := Lib.hid (show O7 = false by rw [HO7.out, h1, decide_eq_false hb]; rfl)
         clear h1 hb
         go_wp2_with fail
         go_meet
         exact ⟨by rw [hO.out], rfl⟩
       | false =>
        obtain ⟨n1, n1'⟩ := sgn_no_ch ht.out 94 (by decide) h1
        have hO := Lib.hid (show O7 = false by rw [HO7.out, h1]; rfl)
        clear h1
        go_wp2_with fail
        go_meet
        exact ⟨by rw [hO.out], rfl⟩
      case rest =>
       obtain ⟨rfl, rfl⟩ := hcut
       obtain ⟨wx4, hw4⟩ : ∃ W, W = wc := ⟨_, rfl⟩
       subst hw4
       cases O7 with
       | true =>
        have HRx := Lib.hid (show R = branchM false s.data.toList sub top beg m0 (st'.to p2) (l ++ [.start]) true by rw [HP2.out]; exact HRm.out.trans (if_pos rfl))
        have hlt : st'.pos < s.data.toList.length := by
         have h := HO7.out
         cases hc : chAt s.data.toList st'.pos 94 with
         | true => exact (ch_byt hc).1
         | false => rw [hc] at h; exact absurd h (by simp)
        have HLt := Lib.hid (show p2 ≤ s.size ∧ st'.pos + 1 = p2 by have := HSl.out; have := HP2.out; omega)
        have hlen : l.length + 1 ≤ 251 := by have := HL.out; omega
        have hm1 : l.length + 1 ≤ maxLen := by unfold maxLen; omega
        have hm2 : (l.length + 1) * 88 ≤ 140737488355328 := by omega
        have hO3 := HY4.out.x.o.1
        rw [List.length_map] at hO3
        have hA := (Below.refl wx4.heap.size wx4).alloc (Nat.le_refl _) (.cells #[.int .i64 7, .int .u64 0, .int .u64 0, .int .u64 0, .int .u64 0, .slice none 0 0, .int .i64 0, .int .i64 0, .int .i64 0] 36)
        have HOA := Lib.hid (nd_own_below hO3 hA)
        have HNw := Lib.hid (news_leaf wx4 .start _ tc_start)
        have hlw := HY4.out.x.k5.lt
        have hv1 : ∀ u ∈ (#[.int .i64 7, .int .u64 0, .int .u64 0, .int .u64 0, .int .u64 0, .slice none 0 0, .int .i64 0, .int .i64 0, .int .i64 0] : Array Value).toList, u.oneCell' = true := by intro y hy; simp at hy; rcases hy with rfl | rfl | rfl | rfl | rfl | rfl | rfl | rfl | rfl <;> rfl
        clear hlt hO3 hA hlen
        clear c0 c1 c2 c3 c4 c5 c6 c7 f0 f1 f2 f3 f4 f5 f6 f7 hl
        go_wp2_with (at_builtin; refine wpList_append_any _ rfl _ _ 34 rfl (w.heap.size + 3) 36 i0 (.agg zC) 9 88 Tryz.underlying34 hi hz0 hz1 hz2 rfl (by decide) u6 l.length us rfl HOA.out (some ⟨wx4.heap.size, 0, none⟩) 1 1 (#[.int .i64 7, .int .u64 0, .int .u64 0, .int .u64 0, .int .u64 0, .slice none 0 0, .int .i64 0, .int .i64 0, .int .i64 0] : Array Value).toList rfl rfl (fun _ => ⟨_, rfl, HNw.out⟩) hv1 hm1 hm2 (by simp; omega) ?_; intro v6 w6 hown6 hgrow6 hat6; have HY6 := Lib.hid (HY4.out.leaf (d := .start) rfl tc_start hown6 hgrow6 hat6); clear hown6 hgrow6 hat6; obtain ⟨c0, c1, c2, c3, c4, c5, c6, c7, f0, f1, f2, f3, f4, f5, f6, f7, hl⟩ := blk8 HY6.out.x.k2)
        have HYn := Lib.hid (HY6.out.x.put (st2 := st'.to p2) (HY6.out.r.to p2 (by have := HLt.out; omega) HLt.out.1) (HY6.out.x.b.setCell (p := ⟨w.heap.size, 2, none⟩) (Nat.le_refl _) (.int .i64 (p2 : Int))) ((HY6.out.x.k2.set 2 (.int .i64 (p2 : Int))).eqv (by simp [ReSt.to])) (fun b hb => far_set _ _ _ _ hb) (by simp [World.setCell]))
        clear c0 c1 c2 c3 c4 c5 c6 c7 f0 f1 f2 f3 f4 f5 f6 f7 hl
        go_roundw
        case rel => exact .inl ⟨m0, st'.to p2, _, _, l ++ [.start], _, true, rfl, HRx.out, by have := HL.out; have := HLt.out; show s.size < m0 + p2; omega, by rw [List.all_append, HL.out.1]; rfl, by rw [List.length_append]; have := HL.out; have := HLt.out; show l.length + 1 ≤ p2; omega, HYn.out⟩
        case measure =>
         rw [HYn.out.x.mu, HYr.out.x.mu]
         simp [ReSt.to]
         have := HLt.out
         omega
       | false =>
        have HRn := Lib.hid (HRm.out.trans (if_neg Bool.false_ne_true))
        clear HRm
        have HRm := HRn
        clear HRn
        clear c0 c1 c2 c3 c4 c5 c6 c7 f0 f1 f2 f3 f4 f5 f6 f7 hl
        obtain ⟨c0, c1, c2, c3, c4, c5, c6, c7, f0, f1, f2, f3, f4, f5, f6, f7, hl⟩ := blk8 HY4.out.x.k2
        go_upto_region 11 with fail
        go_cut [72] (fun s72 wx => s72 = .bool O11 ∧ Below wx4.heap.size wx4 wx)
        case first =>
         cases h1 : chAt s.data.toList st'.pos 36 with
         | true =>
          have e1 := (sgn_ch ht.out 36 (by decide)).2 h1
          have hO := Lib.hid (show O11 = endsAt s.data.toList (st'.pos + 1) by rw [HO11.out, h1]; rfl)
          clear h1
          have HEn := Lib.hid (fun w => rends_any s st'.pos st'.opened (.slice ca' cl' cc') (.slice ma' ml' mc') 0 0 p2 (dp : Int) w (by have := HP2.out; have := HL.out; omega))
          go_wp2_with fail
          with_reducible refine (HEn.out _).mono ?_
          rintro e w14 ⟨rfl, b14⟩
          have HB14 := Lib.hid b14
          have hO2 := Lib.hid (show endsAt s.data.toList p2 = O11 by rw [hO.out, HP2.out])
          clear b14
          go_wp2_with fail
          go_meet
          exact ⟨by rw [hO2.out], HB14.out⟩
         | false =>
          obtain ⟨n1, n1'⟩ := sgn_no_ch ht.out 36 (by decide) h1
          have hO := Lib.hid (show O11 = false by rw [HO11.out, h1]; rfl)
          clear h1
          go_wp2_with fail
          go_meet
          exact ⟨by rw [hO.out], Below.refl _ _⟩
        case rest =>
         obtain ⟨rfl, hb⟩ := hcut
         have HY5 := Lib.hid (HY4.out.step hb)
         clear hb
         cases O11 with
         | true =>
          have HRx := Lib.hid (show R = branchM false s.data.toList sub top beg m0 (st'.to p2) (l ++ [.fin]) true by rw [HP2.out]; exact HRm.out.trans (if_pos rfl))
          obtain ⟨wx5, hw5⟩ : ∃ W, W = wc := ⟨_, rfl⟩
          subst hw5
          have hlt : st'.pos < s.data.toList.length := by
           have h := HO11.out
           cases hc : chAt s.data.toList st'.pos 36 with
           | true => exact (ch_byt hc).1
           | false => rw [hc] at h; exact absurd h (by simp)
          have HLt := Lib.hid (show p2 ≤ s.size ∧ st'.pos + 1 = p2 by have := HSl.out; have := HP2.out; omega)
          have hlen : l.length + 1 ≤ 251 := by have := HL.out; omega
          have hm1 : l.length + 1 ≤ maxLen := by unfold maxLen; omega
          have hm2 : (l.length + 1) * 88 ≤ 140737488355328 := by omega
          have hO3 := HY5.out.x.o.1
          rw [List.length_map] at hO3
          have hA := (Below.refl wx5.heap.size wx5).alloc (Nat.le_refl _) (.cells #[.int .i64 8, .int .u64 0, .int .u64 0, .int .u64 0, .int .u64 0, .slice none 0 0, .int .i64 0, .int .i64 0, .int .i64 0] 36)
          have HOA := Lib.hid (nd_own_below hO3 hA)
          have HNw := Lib.hid (news_leaf wx5 .fin _ tc_fin)
          have hlw := HY5.out.x.k5.lt
          have hv1 : ∀ u ∈ (#[.int .i64 8, .int .u64 0, .int .u64 0, .int .u64 0, .int .u64 0, .slice none 0 0, .int .i64 0, .int .i64 0, .int .i64 0] : Array Value).toList, u.oneCell' = true := by intro y hy; simp at hy; rcases hy with rfl | rfl | rfl | rfl | rfl | rfl | rfl | rfl | rfl <;> rfl
          clear hlt hO3 hA hlen
          clear c0 c1 c2 c3 c4 c5 c6 c7 f0 f1 f2 f3 f4 f5 f6 f7 hl
          go_wp2_with (at_builtin; refine wpList_append_any _ rfl _ _ 34 rfl (w.heap.size + 3) 36 i0 (.agg zC) 9 88 Tryz.underlying34 hi hz0 hz1 hz2 rfl (by decide) u6 l.length us rfl HOA.out (some ⟨wx5.heap.size, 0, none⟩) 1 1 (#[.int .i64 8, .int .u64 0, .int .u64 0, .int .u64 0, .int .u64 0, .slice none 0 0, .int .i64 0, .int .i64 0, .int .i64 0] : Array Value).toList rfl rfl (fun _ => ⟨_, rfl, HNw.out⟩) hv1 hm1 hm2 (by simp; omega) ?_; intro v6 w6 hown6 hgrow6 hat6; have HY6 := Lib.hid (HY5.out.leaf (d := .fin) rfl tc_fin hown6 hgrow6 hat6); clear hown6 hgrow6 hat6; obtain ⟨c0, c1, c2, c3, c4, c5, c6, c7, f0, f1, f2, f3, f4, f5, f6, f7, hl⟩ := blk8 HY6.out.x.k2)
          have HYn := Lib.hid (HY6.out.x.put (st2 := st'.to p2) (HY6.out.r.to p2 (by have := HLt.out; omega) HLt.out.1) (HY6.out.x.b.setCell (p := ⟨w.heap.size, 2, none⟩) (Nat.le_refl _) (.int .i64 (p2 : Int))) ((HY6.out.x.k2.set 2 (.int .i64 (p2 : Int))).eqv (by simp [ReSt.to])) (fun b hb => far_set _ _ _ _ hb) (by simp [World.setCell]))
          clear c0 c1 c2 c3 c4 c5 c6 c7 f0 f1 f2 f3 f4 f5 f6 f7 hl
          go_roundw
          case rel => exact .inl ⟨m0, st'.to p2, _, _, l ++ [.fin], _, true, rfl, HRx.out, by have := HL.out; have := HLt.out; show s.size < m0 + p2; omega, by rw [List.all_append, HL.out.1]; rfl, by rw [List.length_append]; have := HL.out; have := HLt.out; show l.length + 1 ≤ p2; omega, HYn.out⟩
          case measure =>
           rw [HYn.out.x.mu, HYr.out.x.mu]
           simp [ReSt.to]
           have := HLt.out
           omega
         | false =>
          have HRn := Lib.hid (HRm.out.trans (if_neg Bool.false_ne_true))
          clear HRm
          have HRm := HRn
          clear HRn
          obtain ⟨w5, hw5⟩ : ∃ W, W = wc := ⟨_, rfl⟩
          subst hw5
          obtain ⟨c0, c1, c2, c3, c4, c5, c6, c7, f0, f1, f2, f3, f4, f5, f6, f7, hl⟩ := blk8 HY5.out.x.k2
          go_upto_region 15 with fail
          go_cut [107] (fun s107 wx => s107 = .bool O15 ∧ Below w5.heap.size w5 wx)
          case first =>
           cases front with
           | false =>
            have hO := Lib.hid (show O15 = false by rw [HO15.out]; rfl)
            go_wp2_with fail
            go_meet
            exact ⟨by rw [hO.out], Below.refl _ _⟩
           | true =>
            cases h1 : opAt false s.data.toList st'.pos 123 with
            | true =>
             have e1 := (sgn_es ht.out 123).2 h1
             have hO := Lib.hid (show O15 = true by rw [HO15.out, h1]; rfl)
             clear h1
             go_wp2_with fail
             with_reducible refine (HOp.out _ _).mono ?_
             rintro e w21 ⟨rfl, b21⟩
             have HY21 := Lib.hid (HY5.out.step b21)
             have HB21 : Hid (Below w5.heap.size w5 w21) := Lib.hid (b21)
             clear b21
             clear c0 c1 c2 c3 c4 c5 c6 c7 f0 f1 f2 f3 f4 f5 f6 f7 hl
             obtain ⟨c0, c1, c2, c3, c4, c5, c6, c7, f0, f1, f2, f3, f4, f5, f6, f7, hl⟩ := blk8 HY21.out.x.k2
             go_wp2_with fail
             go_meet
             exact ⟨by rw [hO.out], HB21.out⟩
            | false =>
             obtain ⟨n1, n1'⟩ := sgn_no_es ht.out 123 h1
             go_wp2_with fail
             with_reducible refine (HOp.out _ _).mono ?_
             rintro e w21 ⟨rfl, b21⟩
             have HY21 := Lib.hid (HY5.out.step b21)
             have HB21 : Hid (Below w5.heap.size w5 w21) := Lib.hid (b21)
             clear b21
             clear c0 c1 c2 c3 c4 c5 c6 c7 f0 f1 f2 f3 f4 f5 f6 f7 hl
             obtain ⟨c0, c1, c2, c3, c4, c5, c6, c7, f0, f1, f2, f3, f4, f5, f6, f7, hl⟩ := blk8 HY21.out.x.k2
             cases h2 : opAt false s.data.toList st'.pos 43 with
             | true =>
              have e2 := (sgn_es ht.out 43).2 h2
              have hO := Lib.hid (show O15 = true by rw [HO15.out, h1, h2]; rfl)
              clear h1 h2
              go_wp2_with fail
              with_reducible refine (HOp.out _ _).mono ?_
              rintro e w22 ⟨rfl, b22⟩
              have HY22 := Lib.hid (HY21.out.step b22)
              have HB22 : Hid (Below w5.heap.size w5 w22) := Lib.hid (HB21.out.trans (b22.mono HB21.out.size))
              clear b22
              clear c0 c1 c2 c3 c4 c5 c6 c7 f0 f1 f2 f3 f4 f5 f6 f7 hl
              obtain ⟨c0, c1, c2, c3, c4, c5, c6, c7, f0, f1, f2, f3, f4, f5, f6, f7, hl⟩ := blk8 HY22.out.x.k2
              go_wp2_with fail
              go_meet
              exact ⟨by rw [hO.out], HB22.out⟩
             | false =>
              obtain ⟨n2, n2'⟩ := sgn_no_es ht.out 43 h2
              go_wp2_with fail
              with_reducible refine (HOp.out _ _).mono ?_
              rintro e w22 ⟨rfl, b22⟩
              have HY22 := Lib.hid (HY21.out.step b22)
              have HB22 : Hid (Below w5.heap.size w5 w22) := Lib.hid (HB21.out.trans (b22.mono HB21.out.size))
              clear b22
              clear c0 c1 c2 c3 c4 c5 c6 c7 f0 f1 f2 f3 f4 f5 f6 f7 hl
              obtain ⟨c0, c1, c2, c3, c4, c5, c6, c7, f0, f1, f2, f3, f4, f5, f6, f7, hl⟩ := blk8 HY22.out.x.k2
              cases h3 : opAt false s.data.toList st'.pos 63 with
              | true =>
               have e3 := (sgn_es ht.out 63).2 h3
               have hO := Lib.hid (show O15 = true by rw [HO15.out, h1, h2, h3]; rfl)
               clear h1 h2 h3
               go_wp2_with fail
               with_reducible refine (HOp.out _ _).mono ?_
               rintro e w23 ⟨rfl, b23⟩
               have HY23 := Lib.hid (HY22.out.step b23)
               have HB23 : Hid (Below w5.heap.size w5 w23) := Lib.hid (HB22.out.trans (b23.mono HB22.out.size))
               clear b23
               clear c0 c1 c2 c3 c4 c5 c6 c7 f0 f1 f2 f3 f4 f5 f6 f7 hl
               obtain ⟨c0, c1, c2, c3, c4, c5, c6, c7, f0, f1, f2, f3, f4, f5, f6, f7, hl⟩ := blk8 HY23.out.x.k2
               go_wp2_with fail
               go_meet
               exact ⟨by rw [hO.out], HB23.out⟩
              | false =>
               obtain ⟨n3, n3'⟩ := sgn_no_es ht.out 63 h3
               go_wp2_with fail
               with_reducible refine (HOp.out _ _).mono ?_
               rintro e w23 ⟨rfl, b23⟩
               have HY23 := Lib.hid (HY22.out.step b23)
               have HB23 : Hid (Below w5.heap.size w5 w23) := Lib.hid (HB22.out.trans (b23.mono HB22.out.size))
               clear b23
               clear c0 c1 c2 c3 c4 c5 c6 c7 f0 f1 f2 f3 f4 f5 f6 f7 hl
               obtain ⟨c0, c1, c2, c3, c4, c5, c6, c7, f0, f1, f2, f3, f4, f5, f6, f7, hl⟩ := blk8 HY23.out.x.k2
               have hO := Lib.hid (show O15 = false by rw [HO15.out, h1, h2, h3]; rfl)
               clear h1 h2 h3
               go_wp2_with fail
               go_meet
               exact ⟨by rw [hO.out], HB23.out⟩
          case rest =>
           obtain ⟨rfl, hb⟩ := hcut
           have HY8 := Lib.hid (HY5.out.step hb)
           clear hb
           obtain ⟨wx8, hw8⟩ : ∃ W, W = wc := ⟨_, rfl⟩
           subst hw8
           obtain ⟨c0, c1, c2, c3, c4, c5, c6, c7, f0, f1, f2, f3, f4, f5, f6, f7, hl⟩ := blk8 HY8.out.x.k2
           cases O15 with
           | true =>
            have HRx := Lib.hid (show R = .error (10, st'.pos) from HRm.out.trans (if_pos rfl))
            have HFl := Lib.hid (fun w => rfail_any s false st'.pos st'.opened (.slice ca' cl' cc') (.slice ma' ml' mc') 10 (st'.pos : Int) w ⟨_, _, _, rfl⟩ ⟨_, _, _, rfl⟩)
            go_wp2_with fail
            with_reducible refine (HFl.out _).mono ?_
            rintro e w9 ⟨rfl, b9⟩
            have HY9 := Lib.hid (HY8.out.step b9)
            clear b9
            clear c0 c1 c2 c3 c4 c5 c6 c7 f0 f1 f2 f3 f4 f5 f6 f7 hl
            obtain ⟨c0, c1, c2, c3, c4, c5, c6, c7, f0, f1, f2, f3, f4, f5, f6, f7, hl⟩ := blk8 HY9.out.x.k2
            have hp8 := put8 HY9.out.x.b (Nat.le_refl _) HY9.out.x.k2 (.string s) (.bool false) (.int .i64 (st'.pos : Int)) (.int .i64 (st'.opened : Int)) (.slice ca' cl' cc') (.slice ma' ml' mc') (.int .i64 10) (.int .i64 (st'.pos : Int)) _ rfl
            have HX := Lib.hid ((HY9.out.x.upd (er2 := ((10 : Nat) : Int)) (pl2 := (st'.pos : Int)) hp8.1 hp8.2.1 hp8.2.2.1 hp8.2.2.2).failed (F := F) (q := (10, st'.pos)) HL.out.1 (by have := HL.out; omega) ⟨_, _, _, rfl⟩ ⟨_, _, _, rfl⟩ HRx.out (show (10 : Nat) ≠ 0 by decide))
            clear hp8
            go_wp2_with fail
            go_meet
            exact HX.out
           | false =>
            have HRn := Lib.hid (HRm.out.trans (if_neg Bool.false_ne_true))
            clear HRm
            have HRm := HRn
            clear HRn
            have hlt : st'.pos < s.size := by
             have h := HO6.out
             have := HSl.out
             by_cases h0 : s.data.toList.length ≤ st'.pos
             ·rw [decide_eq_true h0] at h; exact absurd h (by simp)
             ·omega
            have hat := (HAt.out _ st' _ _ _ HY8.out.r hlt)
            go_wp2_with fail
            with_reducible refine hat.mono ?_
            clear hat
            intro e w6 hA
            obtain ⟨at1, op1, cv1, mv1, er1, pl1, d1, a1, cap1, rfl, ⟨ca1, cl1, cc1, rfl⟩, ⟨ma1, ml1, mc1, rfl⟩, ht1, hB1, hD1⟩ := hA.any
            clear hA
            have HYa := Lib.hid (HY8.out.step hB1)
            have hBw : Hid (w.heap.size + 3 ≤ wx8.heap.size ∧ wx8.heap.size ≤ w6.heap.size) := Lib.hid ⟨by have := HY8.out.x.k5.lt; omega, hB1.size⟩
            have HOf := Lib.hid (fun b (hb : wx8.heap.size ≤ b) => HY8.out.x.off b (.inr hb))
            have HB1 := Lib.hid hB1
            clear hB1
            go_upto_region 18 with fail
            have hAA := ((Below.refl w6.heap.size w6).alloc (Nat.le_refl _) (.cells (rfC s false at1 op1 (.slice ca1 cl1 cc1) (.slice ma1 ml1 mc1) er1 pl1) 87)).alloc (by simp) (.cells (tC (unc d1) a1 cap1) 36)
            have HAA := Lib.hid hAA
            have HYb := Lib.hid (HYa.out.step hAA)
            have HQ10 := Lib.hid ((Blk.new w6 (rfC s false at1 op1 (.slice ca1 cl1 cc1) (.slice ma1 ml1 mc1) er1 pl1) 87 w6.heap.size rfl).alloc (.cells (tC (unc d1) a1 cap1) 36))
            have HQ11 := Lib.hid (Blk.new (w6.alloc (.cells (rfC s false at1 op1 (.slice ca1 cl1 cc1) (.slice ma1 ml1 mc1) er1 pl1) 87)) (tC (unc d1) a1 cap1) 36 (w6.heap.size + 1) (by simp))
            have HT7 : Hid (TrX (fun b => wx8.heap.size ≤ b ∧ b < w6.heap.size) ((w6.alloc (.cells (rfC s false at1 op1 (.slice ca1 cl1 cc1) (.slice ma1 ml1 mc1) er1 pl1) 87)).alloc (.cells (tC (unc d1) a1 cap1) 36)) (unc d1) a1 cap1) := Lib.hid (ht1.keep hAA.size (fun b hf hlt => ⟨⟨hf.resolve_left id, hlt⟩, fun o => hAA.cell (p := ⟨b, o, none⟩) hlt⟩))
            have HR7 : Hid (∀ (st2 : ReSt) (cv2 mv2 : Value), RfR (fun b => OffF F w u6 b ∨ wx8.heap.size ≤ b) w6 s st2 cv2 mv2 → RfR (fun b => OffF F w u6 b ∧ b < w6.heap.size) ((w6.alloc (.cells (rfC s false at1 op1 (.slice ca1 cl1 cc1) (.slice ma1 ml1 mc1) er1 pl1) 87)).alloc (.cells (tC (unc d1) a1 cap1) 36)) s st2 cv2 mv2) := Lib.hid (fun st2 cv2 mv2 h => (HY8.out.x.back h).keep hAA.size (fun b hf hlt => ⟨⟨hf, hlt⟩, fun o => hAA.cell (p := ⟨b, o, none⟩) hlt⟩))
            clear ht1 hAA
            clear c0 c1 c2 c3 c4 c5 c6 c7 f0 f1 f2 f3 f4 f5 f6 f7 hl
            generalize (w6.alloc (.cells (rfC s false at1 op1 (.slice ca1 cl1 cc1) (.slice ma1 ml1 mc1) er1 pl1) 87)).alloc (.cells (tC (unc d1) a1 cap1) 36) = w7 at *
            generalize w6.heap.size = q10 at *
            obtain ⟨c0, c1, c2, c3, c4, c5, c6, c7, f0, f1, f2, f3, f4, f5, f6, f7, hl⟩ := blk8 HQ10.out
            obtain ⟨x0, x1, x2, x3, x4, x5, x6, x7, y0, y1, y2, y3, y4, y5, y6, y7, hx⟩ := blk8 HYb.out.x.k2
            go_upto_region 19 with fail
            have HP8 := Lib.hid (put8 HYb.out.x.b (Nat.le_refl _) HYb.out.x.k2 (.string s) (.bool false) (.int .i64 (at1 : Int)) (.int .i64 (op1 : Int)) (.slice ca1 cl1 cc1) (.slice ma1 ml1 mc1) (.int .i64 er1) (.int .i64 pl1) _ rfl)
            have HXu := Lib.hid (HYb.out.x.upd (er2 := er1) (pl2 := pl1) (at2 := at1) (op2 := op1) (cv2 := .slice ca1 cl1 cc1) (mv2 := .slice ma1 ml1 mc1) HP8.out.1 HP8.out.2.1 HP8.out.2.2.1 HP8.out.2.2.2)
            have HQ11b := Lib.hid (HQ11.out.same (HP8.out.2.2.1 _ (by have := hBw.out; omega)))
            clear c0 c1 c2 c3 c4 c5 c6 c7 f0 f1 f2 f3 f4 f5 f6 f7 hl
            clear x0 x1 x2 x3 x4 x5 x6 x7 y0 y1 y2 y3 y4 y5 y6 y7 hx
            generalize ((((((((w7.setCell ⟨w.heap.size, 0, none⟩ (.string s)).setCell ⟨w.heap.size, 1, none⟩ (.bool false)).setCell ⟨w.heap.size, 2, none⟩ (.int .i64 (at1 : Int))).setCell ⟨w.heap.size, 3, none⟩ (.int .i64 (op1 : Int))).setCell ⟨w.heap.size, 4, none⟩ (.slice ca1 cl1 cc1)).setCell ⟨w.heap.size, 5, none⟩ (.slice ma1 ml1 mc1)).setCell ⟨w.heap.size, 6, none⟩ (.int .i64 er1)).setCell ⟨w.heap.size, 7, none⟩ (.int .i64 pl1)) = W at *
            have HRk : Hid (∀ (st2 : ReSt) (cv2 mv2 : Value), RfR (fun b => OffF F w u6 b ∧ b < q10) w7 s st2 cv2 mv2 → RfR (fun b => OffF F w u6 b ∧ b < q10) W s st2 cv2 mv2) := Lib.hid (fun st2 cv2 mv2 h => h.keep (by rw [HP8.out.2.2.2]; exact Nat.le_refl _) (fun b hf _ => ⟨hf, fun o => World.cell?_of_block (w := w7) (a := ⟨b, o, none⟩) (HP8.out.2.2.1 b (by have := hf.1.1; omega))⟩))
            have HTk : Hid (TrX (fun b => wx8.heap.size ≤ b ∧ b < q10) W (unc d1) a1 cap1) := Lib.hid (HT7.out.keep (by rw [HP8.out.2.2.2]; exact Nat.le_refl _) (fun b hf _ => ⟨hf, fun o => World.cell?_of_block (w := w7) (a := ⟨b, o, none⟩) (HP8.out.2.2.1 b (by have := hf.1; have := hBw.out; omega))⟩))
            obtain ⟨c0, c1, c2, c3, c4, c5, c6, c7, f0, f1, f2, f3, f4, f5, f6, f7, hl⟩ := blk8 HXu.out.k2
            rcases hD1 with ⟨q, hF, rfl, rfl, rfl, rfl, rfl, hr1⟩ | ⟨q, hF, hq, rfl, rfl, hC⟩
            ·have HRx := Lib.hid (show R = match repM false s.data.toList (s.data.toList.length + 1) q.1 q.2 with
              | .error e => .error e
              | .ok (st2, d2) => branchM false s.data.toList sub top beg m0 st2 (l ++ [d2]) false by rw [HRm.out, hF]; rfl)
             have hmv := atom_mv false s.data.toList sub HSb.out st' q.1 q.2 (by have := HSl.out; omega) hF
             have hcat := atom_cat false s.data.toList sub st' q.1 q.2 hF
             have HMv := Lib.hid (show st'.pos < q.1.pos ∧ q.1.pos ≤ s.size by have := HSl.out; omega)
             have HRr := Lib.hid (HRk.out _ _ _ (HR7.out _ _ _ hr1))
             have HCat := Lib.hid hcat
             have hrep := rrepeated_f HMk.out (F := fun b => OffF F w u6 b ∧ b < q10) (FT := fun b => wx8.heap.size ≤ b ∧ b < q10) W HRr.out HTk.out hcat
             clear hr1 hmv hcat
             obtain ⟨y0, y1, y2, y3, y4, y5, y6, y7, y8, g0, g1, g2, g3, g4, g5, g6, g7, g8, hy⟩ := blk9n HQ11b.out
             go_wp2_with fail
             with_reducible refine hrep.mono ?_
             clear hrep
             intro e w9 hA
             obtain ⟨at2, op2, cv2, mv2, er2, pl2, d2, a2, cap2, rfl, ⟨ca2, cl2, cc2, rfl⟩, ⟨ma2, ml2, mc2, rfl⟩, ht2, hB2, hD2⟩ := hA.any
             clear hA
             have HCat2 : Hid (inCat d2 = true) := Lib.hid (by
              rcases hD2 with ⟨q2, h2, rfl, _⟩ | ⟨_, _, _, _, _, h⟩
              ·exact rep_cat _ _ _ _ _ _ _ HCat.out h2
              ·exact h)
             have HX9 := Lib.hid (HXu.out.step hB2)
             have HQ11c := Lib.hid (HQ11b.out.below hB2 HQ11b.out.lt)
             have HB2 := Lib.hid hB2
             have HT2 := Lib.hid ht2
             have HD2 := Lib.hid hD2
             clear hB2 ht2 hD2
             clear c0 c1 c2 c3 c4 c5 c6 c7 f0 f1 f2 f3 f4 f5 f6 f7 hl
             clear y0 y1 y2 y3 y4 y5 y6 y7 y8 g0 g1 g2 g3 g4 g5 g6 g7 g8 hy
             obtain ⟨c0, c1, c2, c3, c4, c5, c6, c7, f0, f1, f2, f3, f4, f5, f6, f7, hl⟩ := blk8 HX9.out.k2
             obtain ⟨y0, y1, y2, y3, y4, y5, y6, y7, y8, g0, g1, g2, g3, g4, g5, g6, g7, g8, hy⟩ := blk9n HQ11c.out
             have hne1 : ¬ w.heap.size = q10 + 1 := by have := hBw.out; omega
             have hne2 : ¬ q10 + 1 = w.heap.size := by have := hBw.out; omega
             go_upto_region 21 with fail
             have HP9 := Lib.hid (put17a HX9.out.b (Nat.le_refl _) (show w.heap.size ≤ q10 + 1 by have := hBw.out; omega) (show w.heap.size ≠ q10 + 1 by have := hBw.out; omega) HX9.out.k2 HQ11c.out (.string s) (.bool false) (.int .i64 (at2 : Int)) (.int .i64 (op2 : Int)) (.slice ca2 cl2 cc2) (.slice ma2 ml2 mc2) (.int .i64 er2) (.int .i64 pl2) (.int .i64 (unc d2).kind) (.int .u64 (ow (unc d2).set 0)) (.int .u64 (ow (unc d2).set 1)) (.int .u64 (ow (unc d2).set 2)) (.int .u64 (ow (unc d2).set 3)) (.slice a2 (unc d2).parts.length cap2) (.int .i64 (unc d2).mn) (.int .i64 (unc d2).mx) (.int .i64 (unc d2).num) _ rfl)
             clear c0 c1 c2 c3 c4 c5 c6 c7 f0 f1 f2 f3 f4 f5 f6 f7 hl
             clear y0 y1 y2 y3 y4 y5 y6 y7 y8 g0 g1 g2 g3 g4 g5 g6 g7 g8 hy
             with_reducible generalize (((((((((((((((((w9.setCell ⟨w.heap.size, 0, none⟩ (.string s)).setCell ⟨w.heap.size, 1, none⟩ (.bool false)).setCell ⟨w.heap.size, 2, none⟩ (.int .i64 (at2 : Int))).setCell ⟨w.heap.size, 3, none⟩ (.int .i64 (op2 : Int))).setCell ⟨w.heap.size, 4, none⟩ (.slice ca2 cl2 cc2)).setCell ⟨w.heap.size, 5, none⟩ (.slice ma2 ml2 mc2)).setCell ⟨w.heap.size, 6, none⟩ (.int .i64 er2)).setCell ⟨w.heap.size, 7, none⟩ (.int .i64 pl2)).setCell ⟨q10 + 1, 0, none⟩ (.int .i64 (unc d2).kind)).setCell ⟨q10 + 1, 1, none⟩ (.int .u64 (ow (unc d2).set 0))).setCell ⟨q10 + 1, 2, none⟩ (.int .u64 (ow (unc d2).set 1))).setCell ⟨q10 + 1, 3, none⟩ (.int .u64 (ow (unc d2).set 2))).setCell ⟨q10 + 1, 4, none⟩ (.int .u64 (ow (unc d2).set 3))).setCell ⟨q10 + 1, 5, none⟩ (.slice a2 (unc d2).parts.length cap2)).setCell ⟨q10 + 1, 6, none⟩ (.int .i64 (unc d2).mn)).setCell ⟨q10 + 1, 7, none⟩ (.int .i64 (unc d2).mx)).setCell ⟨q10 + 1, 8, none⟩ (.int .i64 (unc d2).num)) = V at *
             have HVs : Hid (∀ b, b < wx8.heap.size → b ≠ w.heap.size → V.heap[b]? = wx8.heap[b]?) := Lib.hid (fun b hb hne => by
              have h7 := HAA.out.size
              have h8 := HP8.out.2.2.2
              have h9 := hBw.out
              have hq := HQ11b.out.lt
              exact (HP9.out.2.2.2.1 b hne (by omega)).trans ((HB2.out.block b (by omega)).trans ((HP8.out.2.2.1 b hne).trans ((HAA.out.block b (by omega)).trans (HB1.out.block b hb)))))
             have HVz : Hid (wx8.heap.size ≤ V.heap.size) := Lib.hid (by have h6 := HB2.out.size; have h7 := HAA.out.size; have h8 := HP8.out.2.2.2; have h9 := hBw.out; have hq := HQ11b.out.lt; have h5 := HP9.out.2.2.2.2; omega)
             have HXv := Lib.hid (HY8.out.x.jump HP9.out.1 HP9.out.2.1 HVs.out HVz.out)
             have HTv : Hid (TrX (fun b => w.heap.size + 3 ≤ b ∧ OffV u6 b) V (unc d2) a2 cap2) := Lib.hid (HT2.out.keep (by rw [HP9.out.2.2.2.2]; exact Nat.le_refl _) (fun b hf _ => by
              have h9 := hBw.out
              have hq := HQ11b.out.lt
              have hb8 : wx8.heap.size ≤ b := by
               rcases hf with hf | hf
               ·exact hf.1
               ·have := HXu.out.k5.lt; omega
              have hne : b ≠ q10 + 1 := by rcases hf with hf | hf <;> omega
              exact ⟨⟨by omega, HOf.out b hb8⟩, fun o => World.cell?_of_block (w := w9) (a := ⟨b, o, none⟩) (HP9.out.2.2.2.1 b (by omega) hne)⟩))
             have HRv : Hid (∀ (st2 : ReSt) (cv2 mv2 : Value), RfR (fun b => (OffF F w u6 b ∧ b < q10) ∨ W.heap.size ≤ b) w9 s st2 cv2 mv2 → RfR (OffF F w u6) V s st2 cv2 mv2) := Lib.hid (fun st2 cv2 mv2 h => h.keep (by rw [HP9.out.2.2.2.2]; exact Nat.le_refl _) (fun b hf _ => by
              have h9 := hBw.out
              have hq := HQ11b.out.lt
              have hk := HXu.out.k5.lt
              rcases hf with hf | hf
              ·exact ⟨hf.1, fun o => World.cell?_of_block (w := w9) (a := ⟨b, o, none⟩) (HP9.out.2.2.2.1 b (by have := hf.1.1; omega) (by omega))⟩
              ·exact ⟨⟨.inr (by omega), HOf.out b (by omega)⟩, fun o => World.cell?_of_block (w := w9) (a := ⟨b, o, none⟩) (HP9.out.2.2.2.1 b (by omega) (by omega))⟩))
             have HK9 := Lib.hid HP9.out.2.2.1
             obtain ⟨y0, y1, y2, y3, y4, y5, y6, y7, y8, g0, g1, g2, g3, g4, g5, g6, g7, g8, hy⟩ := blk9n HK9.out
             have hO3 := HXv.out.o.1
             rw [List.length_map] at hO3
             have hA := (Below.refl V.heap.size V).alloc (Nat.le_refl _) (.cells (tC (unc d2) a2 cap2) 36)
             have HOA := Lib.hid (nd_own_below hO3 hA)
             have HNw := Lib.hid (news_new V (unc d2) a2 cap2 36 V.heap.size rfl)
             have hv1 := (Chunks.single HTv.out).one
             have hlen : l.length + 1 ≤ 251 := by have := HL.out; omega
             have hm1 : l.length + 1 ≤ maxLen := by unfold maxLen; omega
             have hm2 : (l.length + 1) * 88 ≤ 140737488355328 := by omega
             have hlw := HXv.out.k5.lt
             clear hO3 hA hlen
             go_wp2_with (at_builtin; refine wpList_append_any _ rfl _ _ 34 rfl (w.heap.size + 3) 36 i0 (.agg zC) 9 88 Tryz.underlying34 hi hz0 hz1 hz2 rfl (by decide) u6 l.length us rfl HOA.out (some ⟨V.heap.size, 0, none⟩) 1 1 (tC (unc d2) a2 cap2).toList rfl rfl (fun _ => ⟨_, rfl, HNw.out⟩) hv1 hm1 hm2 (by simp; omega) ?_; intro v6 w10 hown6 hgrow6 hat6; have HXn := Lib.hid (HXv.out.addn HTv.out hown6 hgrow6 hat6); clear hown6 hgrow6 hat6 y0 y1 y2 y3 y4 y5 y6 y7 y8 g0 g1 g2 g3 g4 g5 g6 g7 g8 hy; obtain ⟨c0, c1, c2, c3, c4, c5, c6, c7, f0, f1, f2, f3, f4, f5, f6, f7, hl⟩ := blk8 HXn.out.1.k2)
             clear c0 c1 c2 c3 c4 c5 c6 c7 f0 f1 f2 f3 f4 f5 f6 f7 hl
             have HGo : Hid (BrLp F w s false sub top beg R v6 (.bool false) w10 ∧ (if er2 = 0 then s.size + 1 - at2 else 0) < s.size + 1 - st'.pos) := Lib.hid (by
              have hL := HL.out
              have hMv := HMv.out
              rcases HD2.out with ⟨q2, h2, rfl, rfl, rfl, rfl, rfl, hr2⟩ | ⟨q2, h2, hq2, rfl, rfl, _⟩
              ·have hmv2 := repM_mv false s.data.toList _ q.1 q.2 q2.1 q2.2 (by have := HSl.out; omega) h2
               have hsl := HSl.out
               refine ⟨.inl ⟨m0, q2.1, _, _, l ++ [q2.2], _, false, rfl, by rw [HRx.out, h2], by omega, by rw [List.all_append, hL.1]; simp [HCat2.out], by rw [List.length_append]; show l.length + 1 ≤ _; omega, ⟨HXn.out.1, HXn.out.2 _ _ _ _ (HRv.out _ _ _ hr2)⟩⟩, ?_⟩
               rw [if_pos rfl]
               omega
              ·refine ⟨.inr ⟨_, _, _, _, l ++ [d2], _, q2, HXn.out.1, by rw [List.all_append, hL.1]; simp [HCat2.out], by rw [List.length_append]; show l.length + 1 ≤ _; omega, ⟨_, _, _, rfl⟩, ⟨_, _, _, rfl⟩, by rw [HRx.out, h2], hq2⟩, ?_⟩
               rw [if_neg (fun h => hq2 (by simpa using h))]
               omega)
             go_roundw
             case rel => exact HGo.out.1
             case measure =>
              rw [HXn.out.1.mu, HYr.out.x.mu]
              exact HGo.out.2
            ·have HX := Lib.hid (HXu.out.failed (F := F) HL.out.1 (by have := HL.out; omega) ⟨_, _, _, rfl⟩ ⟨_, _, _, rfl⟩ (show R = .error q by rw [HRm.out, hF]) hq)
             have e9 : ((q.1 : Int) == 0) = false := by rw [beq_eq_false_iff_ne]; exact fun h => hq (by simpa using h)
             have e9' : ¬ (q.1 : Int) = 0 := fun h => hq (by simpa using h)
             have e9'' : ((q.1 : Int) != 0) = true := by simp [bne, e9]
             clear hq hC hF
             go_wp2_with fail
             go_meet
             exact HX.out
   ·obtain ⟨at', op, cv', mv', l, us, q, hX, ha, hll, ⟨ca', cl', cc', rfl⟩, ⟨ma', ml', mc', rfl⟩, hRe, hq⟩ := hrel
    have HX := Lib.hid hX
    have HQ := Lib.hid (And.intro ha (And.intro hll (And.intro hRe hq)))
    have e9 : ((q.1 : Int) == 0) = false := by rw [beq_eq_false_iff_ne]; exact fun h => hq (by simpa using h)
    have e9' : ¬ (q.1 : Int) = 0 := fun h => hq (by simpa using h)
    clear hX ha hll hRe hq
    obtain ⟨c0, c1, c2, c3, c4, c5, c6, c7, f0, f1, f2, f3, f4, f5, f6, f7, hl⟩ := blk8 HX.out.k2
    go_wp2_with fail
    go_meet
    exact HX.out.failed HQ.out.1 HQ.out.2.1 ⟨_, _, _, rfl⟩ ⟨_, _, _, rfl⟩ HQ.out.2.2.1 HQ.out.2.2.2
 case rest =>
  obtain ⟨at', op, cv', mv', er, pl, l, us, hX, ha, hll, ⟨ca', cl', cc', rfl⟩, ⟨ma', ml', mc', rfl⟩, hD⟩ := hcut
  obtain ⟨ra, rcap, rfl, hrow⟩ := hX.o.row
  have HX := Lib.hid hX
  have HD := Lib.hid hD
  have hJn : ∀ w', Below wc.heap.size wc w' → Calls Tryz.prog 80 #[.slice ra (l.map unc).length rcap] w' fun e w'' => ∃ a' cap', e = .returned (.agg (tC (unc (njoin l)) a' cap')) ∧ TrX (fun b => w.heap.size + 3 ≤ b) w'' (unc (njoin l)) a' cap' ∧ Below w'.heap.size w' w'' := fun w' hb =>
   (rjoin_f (l.map unc) ra rcap w' (hrow.below hb) (by rw [tjflat_cat l ha, List.length_map]; omega) (by rw [List.length_map]; omega)).mono fun e w'' ⟨a', cap', h1, h2, h3⟩ => by
    rw [(unc_njoin l ha).1] at h1 h2
    exact ⟨a', cap', h1, h2.keep (Nat.le_refl _) (fun b hf _ => ⟨by have := hX.k5.lt; have := hb.size; omega, fun _ => rfl⟩), h3⟩
  have HJn := Lib.hid hJn
  have HAl := Lib.hid (unc_njoin l ha).2
  have HSS := Lib.hid (C8.of hX.k2)
  clear hX hD hJn hrow ha hll
  obtain ⟨c0, c1, c2, c3, c4, c5, c6, c7, f0, f1, f2, f3, f4, f5, f6, f7, hl⟩ := blk8 HX.out.k2
  go_upto_region 23 with fail
  clear c0 c1 c2 c3 c4 c5 c6 c7 f0 f1 f2 f3 f4 f5 f6 f7 hl
  generalize hrv : Value.slice ra (l.map unc).length rcap = rv at *
  clear hrv
  have hn1 : w.heap.size ≠ w.heap.size + 1 := by omega
  have hn3 : w.heap.size ≠ w.heap.size + 1 + 1 := by omega
  go_region_held3 (fun w' => C8 w' w.heap.size (.string s) (.bool false) (.int .i64 (at' : Int)) (.int .i64 (op : Int)) (.slice ca' cl' cc') (.slice ma' ml' mc') (.int .i64 er) (.int .i64 pl))
   (first | (with_reducible exact C8.of HL31.out.k2) | (with_reducible exact C8.drew HSS.out) | (with_reducible exact C8.put8 (by assumption) hn1) | (with_reducible exact C8.put9 (by assumption) hn3))
   (first | (go_at_call 80; refine (HJn.out _ (by first | exact Below.refl _ _ | exact (Below.refl _ _).drew)).mono ?_; rintro e w31 ⟨a9, cap9, rfl, ht31, b31⟩; have hb31 := (by first | exact b31 | exact (Below.refl _ _).drew.trans b31 : Below wc.heap.size wc w31); have hL31 := HX.out.step hb31; have HL31 := Lib.hid hL31; have HB31 := Lib.hid hb31; have HT31 := Lib.hid ht31; clear b31 hb31 ht31; obtain ⟨x0, x1, x2, x3, x4, x5, x6, x7, y0, y1, y2, y3, y4, y5, y6, y7, hx⟩ := blk8 hL31.k4; obtain ⟨z0, z1, z2, z3, z4, z5, z6, z7, z8, v0, v1, v2, v3, v4, v5, v6, v7, v8, hz⟩ := blk9n hL31.k5; clear hL31))
  all_goals
   go_wp2_with fail
   first
    | (with_reducible refine post17 HL31.out.b HL31.out.k4 HL31.out.k5 ?_ ?_ ?_ ?_)
    | (with_reducible refine post17d HL31.out.b HL31.out.k4 HL31.out.k5 ?_ ?_ ?_ rfl ?_)
   ·omega
   ·omega
   ·omega
   intro w9 hB9 hk9 hj9 hs9 hz9
   have HA := Lib.hid (show RfAns F (fun _ => False) inAlt false s R w (.returned (.tuple #[.agg (rfC s false at' op (.slice ca' cl' cc') (.slice ma' ml' mc') er pl), .agg (tC (unc (njoin l)) a9 cap9)])) w9 by
    rcases HD.out with ⟨rfl, rfl, st2, rfl, rfl, hr2, hRe⟩ | ⟨q, hRe, hq, rfl, rfl⟩
    ·exact BrX.ok hr2 HB31.out hRe HT31.out hB9 hs9 hz9
    ·exact BrX.err ⟨_, _, _, rfl⟩ ⟨_, _, _, rfl⟩ hRe hq HAl.out HT31.out hB9 hs9 hz9)
   clear x0 x1 x2 x3 x4 x5 x6 x7 y0 y1 y2 y3 y4 y5 y6 y7 hx z0 z1 z2 z3 z4 z5 z6 z7 z8 v0 v1 v2 v3 v4 v5 v6 v7 v8 hz
   obtain ⟨x0, x1, x2, x3, x4, x5, x6, x7, _⟩ := blk8 hk9
   obtain ⟨z0, z1, z2, z3, z4, z5, z6, z7, z8, _⟩ := blk9n hj9
   refine bodyPost_ret (v := .tuple #[.agg (rfC s false at' op (.slice ca' cl' cc') (.slice ma' ml' mc') er pl), .agg (tC (unc (njoin l)) a9 cap9)]) (by simp [results, Tryz.results55, go_sem, x0, x1, x2, x3, x4, x5, x6, x7, z0, z1, z2, z3, z4, z5, z6, z7, z8]) rfl ?_
   first | exact HA.out | exact HA.out.drew
end Go.Proofs.YtkejeiopfblkgaaGreatDoor
