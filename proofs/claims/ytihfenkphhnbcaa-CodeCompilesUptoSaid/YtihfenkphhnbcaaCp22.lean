/- The proof's texts ClP: what the claim reaches of them. -/
import Derived.Test.YtihfenkphhnbcaaCp21
namespace Go.Proofs.Ytihfenkphhnbcaa
open Go Go.RowKit
set_option linter.unusedVariables false in
set_option linter.unusedSimpArgs false in
set_option maxRecDepth 100000 in
set_option maxHeartbeats 4000000 in
theorem dlay_rep (N : Nat) (ih : LayC N) (t : Tr) (a : Option Addr) (cap : Nat) (w0 w : World) (l : List Inn) (k : Nat) (v : Value) (h : TrD (N + 1) w0 t a cap) (hb : Below w0.heap.size w0 w) (hr : DRow w0 w l v) (hs : max l.length 3000 + 6 * nsize (canon t) ≤ 100000) (hk : k ≤ l.length) (hc : cok (canon t) = true) (hlong : ¬ 3000 < l.length) (h4 : t.kind = 4) :
    Calls Try.prog 26 #[v, tV t a cap, .int .i64 (k : Int)] w (DAns w0 w v (dl (canon t) l k)) := by
  have e1 : (t.kind == 1) = false := by simp [h4]
  have e7 : (t.kind == 7) = false := by simp [h4]
  have e8 : (t.kind == 8) = false := by simp [h4]
  have e6 : (t.kind == 6) = false := by simp [h4]
  have e2 : (t.kind == 2) = false := by simp [h4]
  have e3 : (t.kind == 3) = false := by simp [h4]
  have e5 : (t.kind == 5) = false := by simp [h4]
  have e4 : (t.kind == 4) = true := by simp [h4]
  rw [(canon_4 t h4).1] at hs hc ⊢
  simp only [dl]
  rw [if_neg hlong]
  rw [nsize] at hs
  simp only [cok, Bool.and_eq_true] at hc
  have hrep := okrep_parts hc.1
  obtain ⟨hmn0, hmn1, hmx⟩ := hrep
  have hOf := fun (w' : World) (hb' : Below w0.heap.size w0 w') => dof_any N t a cap w0 w' h hb' (.inl h4)
  obtain ⟨va, vc, rfl⟩ := co_form hr
  obtain ⟨i0, hi, hz0, hz1, hz2⟩ := dinst_info
  obtain ⟨i1, hi1, hy0, hy1, hy2⟩ := jint_info
  have hvl := fun b hb => co_own_lt hr b hb
  have hl : ¬ (3000 : Int) < (l.length : Int) := by omega
  have hA1 : Below w.heap.size w (w.alloc (.cells (tC t a cap) 27)) := (Below.refl _ w).alloc (Nat.le_refl _) _
  have hbs := hb.size
  have hT := Blk.new w (tC t a cap) 27 _ rfl
  obtain ⟨W1, hW1⟩ : ∃ W1, w.alloc (.cells (tC t a cap) 27) = W1 := ⟨_, rfl⟩
  have hS0 : DSt w0 W1 (.slice va l.length vc) l (.slice va l.length vc) W1 := by
    rw [← hW1]
    exact ⟨nd_own_below hr hA1, World.grownBy.refl _ _, .inl rfl, hb.trans (hA1.mono hbs)⟩
  rw [hW1] at hT
  have HS0 := Lib.hid hS0
  have HT := Lib.hid hT
  have Hvl := Lib.hid hvl
  have HW1 := Lib.hid hW1
  have Hc := Lib.hid hc.2.2
  have Hs := Lib.hid hs
  obtain ⟨q0, q1, q2, q3, q4, q5, q6, q7, q8⟩ := blk9 hT
  have hW1' : w.alloc (.cells #[.int .i64 t.kind, .int .u64 (ow t.set 0), .int .u64 (ow t.set 1), .int .u64 (ow t.set 2), .int .u64 (ow t.set 3), .slice a t.parts.length cap, .int .i64 t.mn, .int .i64 t.mx, .int .i64 t.num] 27) = W1 := hW1
  obtain ⟨T, hTe⟩ : ∃ T, (if t.mx = -1 then dend (fun l k => dl (canon (tof t)) l k) (dcop (fun l k => dl (canon (tof t)) l k) t.mn.toNat l k).1 (dcop (fun l k => dl (canon (tof t)) l k) t.mn.toNat l k).2
      else drou (fun l k => dl (canon (tof t)) l k) (t.mx - t.mn).toNat [] (dcop (fun l k => dl (canon (tof t)) l k) t.mn.toNat l k).1 (dcop (fun l k => dl (canon (tof t)) l k) t.mn.toNat l k).2) = T := ⟨_, rfl⟩
  rw [hTe]
  have HTe := Lib.hid hTe
  unfold tV at hOf ⊢
  clear hr hb hA1 hT hS0 hvl hW1 h hc hs h4 hTe
  go_enter Try.func26, Try.ntmps26
  go_wp2_with fail
  go_loopw [0, 2, 13] (fun vv kk i wr => ∃ (m : Nat) (l' : List Inn) (k' : Nat), m ≤ t.mn.toNat ∧ i = .int .i64 m ∧ kk = .int .i64 k' ∧ DSt w0 W1 (.slice va l.length vc) l' vv wr ∧ dcop (fun l k => dl (canon (tof t)) l k) (t.mn.toNat - m) l' k' = dcop (fun l k => dl (canon (tof t)) l k) t.mn.toNat l k ∧ k' ≤ l'.length ∧ l'.length ≤ 3000 + 6 * nsize (canon (tof t))) (fun _ _ i _ => t.mn.toNat - (intOf i).toNat)
  case atStart => exact ⟨0, l, k, by omega, rfl, rfl, HS0.out, rfl, hk, by omega⟩
  case round =>
    obtain ⟨m, l', k', hm, rfl, rfl, hS, hd, hk', hsz'⟩ := hrel
    have hbx := DSt.box HT.out Hvl.out hS
    obtain ⟨c0, c1, c2, c3, c4, c5, c6, c7, c8⟩ := hbx
    by_cases hlt : m < t.mn.toNat
    · have hlti : (m : Int) < t.mn := by omega
      obtain ⟨z, hz⟩ : ∃ z, t.mn.toNat - m = z + 1 := ⟨t.mn.toNat - m - 1, by omega⟩
      have hz9 : t.mn.toNat - (m + 1) = z := by omega
      rw [hz, dcop] at hd
      have Wm : IntKind.i64.wrap ((m : Int) + 1) = (m : Int) + 1 := IntWalk.i64_in _ (by omega)
      have hO := hOf wr hS.low
      have hgr := (dl_lays (canon (tof t))).le l' k'
      have hlp := dl_lps (canon (tof t)) l' k'
      have hfew : (dl (canon (tof t)) l' k').1.length ≤ 3000 + 6 * nsize (canon (tof t)) := by
        by_cases hL : 3000 < l'.length
        · rw [show dl (canon (tof t)) l' k' = (l', k') from dl_stops (canon (tof t)) l' k' hL]; exact hsz'
        · have := dl_few (canon (tof t)) l' k'; simp only at this; omega
      obtain ⟨va5, vc5, rfl⟩ := co_form hS.row
      have hC : ∀ a' cap' w', TrD N w0 (tof t) a' cap' → Below w0.heap.size w0 w' → DRow w0 w' l' (.slice va5 l'.length vc5) → Calls Try.prog 26 #[.slice va5 l'.length vc5, tV (tof t) a' cap', .int .i64 (k' : Int)] w' (DAns w0 w' (.slice va5 l'.length vc5) (dl (canon (tof t)) l' k')) := fun a' cap' w' h1 h2 h3 => by
        by_cases hL : 3000 < l'.length
        · exact dlay_long N (tof t) a' cap' w0 w' l' k' _ h3 hL
        · exact ih (tof t) a' cap' w0 w' l' k' _ h1 h2 h3 (by have := Hs.out; omega) hk' Hc.out
      obtain ⟨R, hR⟩ : ∃ R, dl (canon (tof t)) l' k' = R := ⟨_, rfl⟩
      simp only at hgr hlp
      rw [hR] at hC hd hfew hgr hlp
      obtain ⟨L, K⟩ := R
      simp only at hd hfew hgr hlp
      have HC := Lib.hid hC
      have HSt := Lib.hid hS
      have Hd := Lib.hid hd
      have Hm := Lib.hid (And.intro hfew (And.intro hgr (And.intro hlp hk')))
      clear hC hS hd hfew hgr hlp hk' hR
      go_upto_region 45 with (first | (go_at_call 36; refine hO.mono ?_; rintro e wO ⟨a', cap', rfl, hrO, bO⟩; have hC := HC.out a' cap' wO hrO (HSt.out.below bO).low (HSt.out.below bO).row; unfold tV at hC) | (go_at_call 26; refine hC.mono ?_; rintro e w7 hA; obtain ⟨v2, rfl, g2, g3, g4⟩ := hA; replace g2 : DRow w0 w7 L v2 := g2; have HS2 := Lib.hid ((HSt.out.below bO).step g2 g3 g4); obtain ⟨va2, vc2, rfl⟩ := co_form g2; clear g2 g3 g4))
      obtain ⟨hfew, hgr, hlp, hk'⟩ := Hm.out
      have hd := Hd.out
      by_cases heq : L.length = l'.length
      · have hE4 : ((L.length : Int) == (l'.length : Int)) = true := by simp; omega
        rw [if_pos heq] at hd
        have mK : K ≤ L.length := by omega
        have mL : L.length ≤ 3000 + 6 * nsize (canon (tof t)) := hfew
        have Hd := Lib.hid hd.symm
        clear hd hfew hgr hlp hk' heq hC
        have hT2 := HTe.out
        rw [Hd.out] at hT2
        simp only at hT2
        obtain ⟨d0, d1, d2, d3, d4, d5, d6, d7, d8⟩ := DSt.box HT.out Hvl.out HS2.out
        have Wl : IntKind.i64.wrap ((L.length : Int) + 1) = (L.length : Int) + 1 := IntWalk.i64_in _ (by have := Hs.out; omega)
        have Wk : IntKind.i64.wrap ((K : Int) + 1) = (K : Int) + 1 := IntWalk.i64_in _ (by have := Hs.out; omega)
        have hm3 : L.length + 2 ≤ maxLen := by have := Hs.out; unfold maxLen; omega
        have hm4 : (L.length + 2) * 56 ≤ 140737488355328 := by have := Hs.out; omega
        have hsp : ((L.length + 1 : Nat) : Int) = (L.length : Int) + 1 := by omega
        have hk1 : ((K + 1 : Nat) : Int) = (K : Int) + 1 := by omega
        by_cases hmx1 : t.mx = -1
        · have hE : (t.mx == -1) = true := by simp [hmx1]
          rw [if_pos hmx1, dend, hsp] at hT2
          clear hmx1 hmx
          go_upto_region 50 with (at_builtin; go_loud (refine wpList_append_own_at _ rfl _ _ 39 rfl w0.heap.size 84 i0 (.agg #[.int .i64 0, .int .u64 0, .int .u64 0, .int .u64 0, .int .u64 0, .int .i64 0, .int .i64 0]) 7 56 Try.underlying39 hi hz0 hz1 hz2 rfl (by decide) (.slice va2 L.length vc2) L.length (inF L) rfl (HS2.out.below ((Below.refl _ w7).alloc (Nat.le_refl _) _)).row ⟨w7.heap.size, 0, none⟩ 2 2 (inC (ins 1 ((L.length : Int) + 1) 0) ++ inC (ins 7 K 0)) rfl rfl (by rw [← in2_ins]; exact in2_new w7 (ins 1 ((L.length : Int) + 1) 0) (ins 7 K 0) _) (in2_one _ _) hm3 hm4 (HS2.out.below ((Below.refl _ w7).alloc (Nat.le_refl _) _)).low.size ?_; intro v8 w8 hown8 hgr8 _ hat8))
          obtain ⟨g1, g2, g3⟩ := drow_more2 hown8 hgr8 hat8
          have HS3 := Lib.hid (HS2.out.step g1 g2 g3)
          obtain ⟨va3, vc3, rfl⟩ := co_form hown8
          clear hown8 hgr8 hat8 g1 g2 g3 d0 d1 d2 d3 d4 d5 d6 d7 d8
          obtain ⟨d0, d1, d2, d3, d4, d5, d6, d7, d8⟩ := DSt.box HT.out Hvl.out HS3.out
          have hO := hOf w8 HS3.out.low
          have hf2 := dl_few (canon (tof t)) (L ++ [ins 1 ((L.length : Int) + 1) 0, ins 7 K 0]) (K + 1)
          have hgr2 := (dl_lays (canon (tof t))).le (L ++ [ins 1 ((L.length : Int) + 1) 0, ins 7 K 0]) (K + 1)
          simp only [List.length_append, List.length_cons, List.length_nil] at hf2 hgr2
          have hC : ∀ a' cap' w', TrD N w0 (tof t) a' cap' → Below w0.heap.size w0 w' → DRow w0 w' (L ++ [ins 1 ((L.length : Int) + 1) 0, ins 7 K 0]) (.slice va3 (L.length + 2) vc3) → Calls Try.prog 26 #[.slice va3 (L.length + 2) vc3, tV (tof t) a' cap', .int .i64 ((K : Int) + 1)] w' (DAns w0 w' (.slice va3 (L.length + 2) vc3) (dl (canon (tof t)) (L ++ [ins 1 ((L.length : Int) + 1) 0, ins 7 K 0]) (K + 1))) := fun a' cap' w' h1 h2 h3 => by
            rw [← hk1]
            by_cases hL : 3000 < (L ++ [ins 1 ((L.length : Int) + 1) 0, ins 7 K 0]).length
            · exact dlay_long N (tof t) a' cap' w0 w' _ (K + 1) _ h3 hL
            · exact ih (tof t) a' cap' w0 w' _ (K + 1) _ h1 h2 h3 (by have := Hs.out; omega) (by simp only [List.length_append, List.length_cons, List.length_nil]; omega) Hc.out
          obtain ⟨R2, hR2⟩ : ∃ R2, dl (canon (tof t)) (L ++ [ins 1 ((L.length : Int) + 1) 0, ins 7 K 0]) (K + 1) = R2 := ⟨_, rfl⟩
          rw [hR2] at hC hT2 hf2 hgr2
          obtain ⟨L2, K2⟩ := R2
          simp only at hT2 hf2 hgr2
          have hsp2 : ((L2.length + 2 : Nat) : Int) = (L2.length : Int) + 2 := by omega
          rw [hsp2] at hT2
          have hm5 : L2.length + 2 ≤ maxLen := by have := Hs.out; unfold maxLen; omega
          have hm6 : (L2.length + 2) * 56 ≤ 140737488355328 := by have := Hs.out; omega
          have hsX : (L.length : Int) < (L2.length : Int) + 2 := by omega
          have HC := Lib.hid hC
          have HT2 := Lib.hid hT2
          have Hgr2 := Lib.hid hgr2
          clear hC hT2 hf2 hgr2 hR2 hsp hsp2 hk1
          go_upto_region 51 with (first | (go_at_call 36; refine hO.mono ?_; rintro e wO ⟨a', cap', rfl, hrO, bO⟩; have hC := HC.out a' cap' wO hrO (HS3.out.below bO).low (HS3.out.below bO).row; unfold tV at hC) | (go_at_call 26; refine hC.mono ?_; rintro e w9 hA; obtain ⟨v2, rfl, g2, g3, g4⟩ := hA; replace g2 : DRow w0 w9 L2 v2 := g2; have HS4 := Lib.hid ((HS3.out.below bO).step g2 g3 g4); obtain ⟨va4, vc4, rfl⟩ := co_form g2; clear g2 g3 g4))
          go_upto_region 52 with (at_builtin; refine wpList_append_own_at _ rfl _ _ 39 rfl w0.heap.size 84 i0 (.agg #[.int .i64 0, .int .u64 0, .int .u64 0, .int .u64 0, .int .u64 0, .int .i64 0, .int .i64 0]) 7 56 Try.underlying39 hi hz0 hz1 hz2 rfl (by decide) (.slice va4 L2.length vc4) L2.length (inF L2) rfl (HS4.out.below ((Below.refl _ w9).alloc (Nat.le_refl _) _)).row ⟨w9.heap.size, 0, none⟩ 2 2 (inC (ins 8 K 0) ++ inC (ins 2 L.length 0)) rfl rfl (by rw [← in2_ins]; exact in2_new w9 (ins 8 K 0) (ins 2 L.length 0) _) (in2_one _ _) hm5 hm6 (HS4.out.below ((Below.refl _ w9).alloc (Nat.le_refl _) _)).low.size ?_; intro v8 w10 hown8 hgr8 _ hat8)
          obtain ⟨g1, g2, g3⟩ := drow_more2 hown8 hgr8 hat8
          have HS5 := Lib.hid (HS4.out.step g1 g2 g3)
          obtain ⟨va5, vc5, rfl⟩ := co_form hown8
          clear hown8 hgr8 hat8 g1 g2 g3
          have hlen : (L2 ++ [ins 8 K 0, ins 2 L.length 0]).length = L2.length + 2 := by simp
          have hS' : DSt w0 W1 (.slice va l.length vc) (L2 ++ [ins 8 K 0, ins 2 L.length 0]) (.slice va5 (L2 ++ [ins 8 K 0, ins 2 L.length 0]).length vc5) w10 := by rw [hlen]; exact HS5.out
          obtain ⟨hlc, hcm, p0, rfl, hp0, hcell, hfz⟩ := hS'.inst (by omega)
          have hfy := hfz (L.length * 7 + 6)
          have hbd : L.length < (L2 ++ [ins 8 K 0, ins 2 L.length 0]).length := by omega
          have hcy : w10.cell? ⟨p0, L.length * 7 + 6, none⟩ = some (.int .i64 ((L2 ++ [ins 8 K 0, ins 2 L.length 0])[L.length]'hbd).y) := (hcell L.length hbd 6 (by omega)).trans rfl
          obtain ⟨hS5, hg5⟩ := hS'.setY L.length hbd ((L2.length : Int) + 2)
          rw [hlen] at hS5 hlc
          have HF := Lib.hid (DSt.end (k := K2) _ HW1.out hS5)
          clear hS' hS5 hg5 hcell hfz hlen
          go_wp2_with fail
          go_ret2
          rw [← HT2.out]
          exact HF.out
        · have hE : (t.mx == -1) = false := by simp [hmx1]
          rw [if_neg hmx1] at hT2
          have hmm : t.mn ≤ t.mx ∧ t.mx ≤ 255 := by rcases hmx with h | h; exact absurd h hmx1; exact h
          have HT2 := Lib.hid hT2
          clear hmx1 hmx hT2 hsp hk1 Wl Wk hm3 hm4
          go_wp2_with fail
          go_loopw [0, 2, 17, 18] (fun vv kk jv iv wr => ∃ (z : Nat) (ii : Int) (l' : List Inn) (k' : Nat) (ss : List Nat), 0 ≤ ii ∧ ii + z = t.mx ∧ iv = .int .i64 ii ∧ kk = .int .i64 k' ∧ DSt w0 W1 (.slice va l.length vc) l' vv wr ∧ JSt w0 W1 vv jv ss wr ∧ drou (fun l k => dl (canon (tof t)) l k) z ss l' k' = T ∧ k' ≤ l'.length ∧ l'.length ≤ 3001 + 6 * nsize (canon (tof t)) ∧ (∀ x ∈ ss, x < l'.length) ∧ ss.length ≤ l'.length) (fun _ _ _ iv _ => (t.mx - intOf iv).toNat)
          case atStart => exact ⟨(t.mx - t.mn).toNat, t.mn, L, K, [], by omega, by omega, rfl, rfl, HS2.out, jst_nil _ _ _ _, HT2.out, mK, by omega, fun x hx => (by cases hx), by simp⟩
          case round =>
            obtain ⟨z, ii, l', k', ss, hi0, hz, rfl, rfl, hS, hJ, hd, hk', hsz', hjs, hjl⟩ := hrel
            obtain ⟨c0, c1, c2, c3, c4, c5, c6, c7, c8⟩ := DSt.box HT.out Hvl.out hS
            obtain ⟨va2, vc2, rfl⟩ := co_form hS.row
            obtain ⟨ja, jc, rfl⟩ := co_form hJ.row
            by_cases hgo : 0 < z ∧ l'.length ≤ 3000
            · obtain ⟨y, rfl⟩ : ∃ y, z = y + 1 := ⟨z - 1, by omega⟩
              obtain ⟨_, hl3⟩ := hgo
              have hlt : ii < t.mx := by omega
              have hlen : (l'.length : Int) ≤ 3000 := by omega
              have hsp : ((l'.length + 1 : Nat) : Int) = (l'.length : Int) + 1 := by omega
              have hk1 : ((k' + 1 : Nat) : Int) = (k' : Int) + 1 := by omega
              rw [drou, if_neg (by omega), hsp] at hd
              have Wl : IntKind.i64.wrap ((l'.length : Int) + 1) = (l'.length : Int) + 1 := IntWalk.i64_in _ (by omega)
              have Wk : IntKind.i64.wrap ((k' : Int) + 1) = (k' : Int) + 1 := IntWalk.i64_in _ (by omega)
              have Wi : IntKind.i64.wrap (ii + 1) = ii + 1 := IntWalk.i64_in _ (by omega)
              have hm3 : l'.length + 2 ≤ maxLen := by unfold maxLen; omega
              have hm4 : (l'.length + 2) * 56 ≤ 140737488355328 := by omega
              have hmj1 : ss.length + 1 ≤ maxLen := by unfold maxLen; omega
              have hmj2 : (ss.length + 1) * 8 ≤ 140737488355328 := by omega
              have hf2 := dl_few (canon (tof t)) (l' ++ [ins 1 ((l'.length : Int) + 1) 0, ins 7 k' 0]) (k' + 1)
              have hlp2 := dl_lps (canon (tof t)) (l' ++ [ins 1 ((l'.length : Int) + 1) 0, ins 7 k' 0]) (k' + 1)
              have hgr2 := (dl_lays (canon (tof t))).le (l' ++ [ins 1 ((l'.length : Int) + 1) 0, ins 7 k' 0]) (k' + 1)
              simp only [List.length_append, List.length_cons, List.length_nil] at hf2 hgr2 hlp2
              have hC : ∀ a' cap' w', TrD N w0 (tof t) a' cap' → Below w0.heap.size w0 w' → ∀ va3 vc3, DRow w0 w' (l' ++ [ins 1 ((l'.length : Int) + 1) 0, ins 7 k' 0]) (.slice va3 (l'.length + 2) vc3) → Calls Try.prog 26 #[.slice va3 (l'.length + 2) vc3, tV (tof t) a' cap', .int .i64 ((k' : Int) + 1)] w' (DAns w0 w' (.slice va3 (l'.length + 2) vc3) (dl (canon (tof t)) (l' ++ [ins 1 ((l'.length : Int) + 1) 0, ins 7 k' 0]) (k' + 1))) := fun a' cap' w' h1 h2 va3 vc3 h3 => by
                rw [← hk1]
                by_cases hL : 3000 < (l' ++ [ins 1 ((l'.length : Int) + 1) 0, ins 7 k' 0]).length
                · exact dlay_long N (tof t) a' cap' w0 w' _ (k' + 1) _ h3 hL
                · exact ih (tof t) a' cap' w0 w' _ (k' + 1) _ h1 h2 h3 (by have := Hs.out; omega) (by simp only [List.length_append, List.length_cons, List.length_nil]; omega) Hc.out
              obtain ⟨R2, hR2⟩ : ∃ R2, dl (canon (tof t)) (l' ++ [ins 1 ((l'.length : Int) + 1) 0, ins 7 k' 0]) (k' + 1) = R2 := ⟨_, rfl⟩
              rw [hR2] at hC hd hf2 hgr2 hlp2
              obtain ⟨L2, K2⟩ := R2
              simp only at hd hf2 hgr2 hlp2
              have hm5 : L2.length + 1 ≤ maxLen := by have := Hs.out; unfold maxLen; omega
              have hm6 : (L2.length + 1) * 56 ≤ 140737488355328 := by have := Hs.out; omega
              have g5 : K2 ≤ L2.length + 1 := by omega
              have g6 : L2.length + 1 ≤ 3001 + 6 * nsize (canon (tof t)) := by omega
              have g7 : ∀ x ∈ ss ++ [l'.length], x < L2.length + 1 := fun x hx => by
                rcases List.mem_append.1 hx with hx | hx
                · have := hjs x hx; omega
                · rw [List.mem_singleton.1 hx]; omega
              have g8 : ss.length + 1 ≤ L2.length + 1 := by omega
              have HC := Lib.hid hC
              have Hd := Lib.hid hd
              have Hm := Lib.hid (And.intro g5 (And.intro g6 (And.intro g7 g8)))
              have HS2 := Lib.hid hS
              have HJ2 := Lib.hid hJ
              clear hC hd hS hJ hf2 hgr2 hlp2 hR2 hsp hk1 g5 g6 g7 g8 hjs hjl hsz' hk' hl3
              go_upto_region 58 with (at_builtin; go_loud (refine wpList_append_own_at _ rfl _ _ 92 rfl w0.heap.size 3 i1 (.int .i64 0) 1 8 Try.underlying92 hi1 hy0 hy1 hy2 rfl (by decide) (.slice ja ss.length jc) ss.length (jvOf ss) rfl (HJ2.out.below ((Below.refl _ wr).alloc (Nat.le_refl _) _)).row ⟨wr.heap.size, 0, none⟩ 1 1 [.int .i64 (l'.length : Int)] rfl rfl (cells_one_new wr _ _) (fun u hu => by obtain rfl := List.mem_singleton.1 hu; rfl) hmj1 hmj2 (HS2.out.below ((Below.refl _ wr).alloc (Nat.le_refl _) _)).low.size ?_; intro v8 w8 hown8 hgr8 _ hat8))
              obtain ⟨hS3, hJ3⟩ := (HS2.out.below ((Below.refl _ wr).alloc (Nat.le_refl _) _)).jrow (js' := ss ++ [l'.length]) (HJ2.out.below ((Below.refl _ wr).alloc (Nat.le_refl _) _)) (by rw [jvOf_snoc, List.length_append]; exact hown8) hgr8 (hat8.imp id fun h => ⟨_, h, Nat.le_refl _⟩)
              obtain ⟨ja3, jc3, rfl⟩ := co_form hown8
              have HS3 := Lib.hid hS3
              have HJ3 := Lib.hid hJ3
              clear hS3 hJ3 hown8 hgr8 hat8 c0 c1 c2 c3 c4 c5 c6 c7 c8
              go_upto_region 60 with (at_builtin; go_loud (refine wpList_append_own_at _ rfl _ _ 39 rfl w0.heap.size 84 i0 (.agg #[.int .i64 0, .int .u64 0, .int .u64 0, .int .u64 0, .int .u64 0, .int .i64 0, .int .i64 0]) 7 56 Try.underlying39 hi hz0 hz1 hz2 rfl (by decide) (.slice va2 l'.length vc2) l'.length (inF l') rfl (HS3.out.below ((Below.refl _ w8).alloc (Nat.le_refl _) _)).row ⟨w8.heap.size, 0, none⟩ 2 2 (inC (ins 1 ((l'.length : Int) + 1) 0) ++ inC (ins 7 k' 0)) rfl rfl (by rw [← in2_ins]; exact in2_new w8 (ins 1 ((l'.length : Int) + 1) 0) (ins 7 k' 0) _) (in2_one _ _) hm3 hm4 (HS3.out.below ((Below.refl _ w8).alloc (Nat.le_refl _) _)).low.size ?_; intro v9 w9 hown9 hgr9 _ hat9))
              obtain ⟨g1, g2, g3⟩ := drow_more2 hown9 hgr9 hat9
              have HS4 := Lib.hid (HS3.out.step g1 g2 g3)
              have HJ4 := Lib.hid (HJ3.out.list g2 g3)
              obtain ⟨va4, vc4, rfl⟩ := co_form hown9
              clear hown9 hgr9 hat9 g1 g2 g3
              obtain ⟨c0, c1, c2, c3, c4, c5, c6, c7, c8⟩ := DSt.box HT.out Hvl.out HS4.out
              have hO := hOf w9 HS4.out.low
              go_upto_region 61 with (first | (go_at_call 36; refine hO.mono ?_; rintro e wO ⟨a', cap', rfl, hrO, bO⟩; have hC := HC.out a' cap' wO hrO (HS4.out.below bO).low _ _ (HS4.out.below bO).row; unfold tV at hC) | (go_at_call 26; refine hC.mono ?_; rintro e w10 hA; obtain ⟨v2, rfl, g2, g3, g4⟩ := hA; replace g2 : DRow w0 w10 L2 v2 := g2; have HS5 := Lib.hid ((HS4.out.below bO).step g2 g3 g4); have HJ5 := Lib.hid ((HJ4.out.below bO).list g3 g4); obtain ⟨va5, vc5, rfl⟩ := co_form g2; clear g2 g3 g4))
              go_upto_region 56 with (at_builtin; go_loud (refine wpList_append_own_at _ rfl _ _ 39 rfl w0.heap.size 84 i0 (.agg #[.int .i64 0, .int .u64 0, .int .u64 0, .int .u64 0, .int .u64 0, .int .i64 0, .int .i64 0]) 7 56 Try.underlying39 hi hz0 hz1 hz2 rfl (by decide) (.slice va5 L2.length vc5) L2.length (inF L2) rfl (HS5.out.below ((Below.refl _ w10).alloc (Nat.le_refl _) _)).row ⟨w10.heap.size, 0, none⟩ 1 1 (inC (ins 8 k' 0)) rfl rfl (by rw [← inC_ins]; exact inC_new w10 (ins 8 k' 0) _ _ rfl) (inC_one _) hm5 hm6 (HS5.out.below ((Below.refl _ w10).alloc (Nat.le_refl _) _)).low.size ?_; intro v11 w11 hown9 hgr9 _ hat9))
              obtain ⟨g1, g2, g3⟩ := drow_more hown9 hgr9 hat9
              have HS6 := Lib.hid (HS5.out.step g1 g2 g3)
              have HJ6 := Lib.hid (HJ5.out.list g2 g3)
              obtain ⟨va6, vc6, rfl⟩ := co_form hown9
              clear hown9 hgr9 hat9 g1 g2 g3
              go_wp2_with fail
              go_roundw
              case rel =>
                obtain ⟨f1, f2, f3, f4⟩ := Hm.out
                refine ⟨y, ii + 1, _, K2, ss ++ [l'.length], by omega, by omega, by go_num, rfl, HS6.out, HJ6.out, Hd.out, ?_, ?_, ?_, ?_⟩
                · rw [List.length_append]; exact f1
                · rw [List.length_append]; exact f2
                · rw [List.length_append]; exact f3
                · rw [List.length_append, List.length_append]; exact f4
              case measure => simp [intOf]; omega
            · by_cases hz9 : z = 0
              · subst hz9
                have hlt : ¬ ii < t.mx := by omega
                have hlen : True := trivial
                have Hd2 := Lib.hid True.intro
                rw [drou] at hd
                obtain ⟨V, hV⟩ : ∃ V, l'.length = V := ⟨_, rfl⟩
                rw [hV] at hd hS hJ hjs ⊢
                try rw [hV] at hlen
                have HV := Lib.hid hV
                have Hd := Lib.hid hd
                have HS3 := Lib.hid hS
                have HJ3 := Lib.hid hJ
                have Hjs := Lib.hid hjs
                clear hd hS hJ hjs hV hsz' hjl hk' Hd2
                go_wp2_with fail
                go_loopw [280] (fun i wr => ∃ (m : Nat) (L' : List Inn), m ≤ ss.length ∧ i = .int .i64 m ∧ L'.length = V ∧ DSt w0 W1 (.slice va l.length vc) L' (.slice va2 V vc2) wr ∧ JSt w0 W1 (.slice va2 V vc2) (.slice ja ss.length jc) ss wr ∧ patchY (V : Int) (ss.drop m) L' = patchY (V : Int) ss l') (fun i _ => ss.length - (intOf i).toNat)
                case atStart => exact ⟨0, l', by omega, rfl, HV.out, HS3.out, HJ3.out, rfl⟩
                case round =>
                  obtain ⟨m, L', hm, rfl, hL, hS, hJ, hP⟩ := hrel
                  by_cases hlt2 : m < ss.length
                  · have hlti : (m : Int) < (ss.length : Int) := by omega
                    obtain ⟨q, c, e1, hq, hnm2, hqc⟩ := jrow_cells hJ.row (by omega) rfl
                    injection e1 with e1 _ e2
                    subst e1
                    have Wi : IntKind.i64.wrap ((m : Int) + 1) = (m : Int) + 1 := IntWalk.i64_in _ (by omega)
                    have hji := hqc m hlt2
                    have hJl : ss[m] < V := Hjs.out _ (List.getElem_mem hlt2)
                    have hdrop : ss.drop m = ss[m] :: ss.drop (m + 1) := List.drop_eq_getElem_cons hlt2
                    obtain ⟨J, hJe⟩ : ∃ J, ss[m] = J := ⟨_, rfl⟩
                    rw [hJe] at hji hJl hdrop
                    rw [hdrop, patchY] at hP
                    have hJi : (J : Int) < (V : Int) := by omega
                    have hS' := hS
                    rw [← hL] at hS'
                    obtain ⟨hlc, hcm, q0, rfl, hq0, hcell, hfz⟩ := hS'.inst (by omega)
                    have hfy := hfz (J * 7 + 6)
                    have hcy : wr.cell? ⟨q0, J * 7 + 6, none⟩ = some (.int .i64 (L'[J]'(by omega)).y) := (hcell J (by omega) 6 (by omega)).trans rfl
                    obtain ⟨hS2, hg2⟩ := hS'.setY J (by omega) (V : Int)
                    rw [hL] at hS2 hlc
                    have Hfin := Lib.hid (And.intro hS2 (And.intro (hJ.list hg2 (.inl rfl)) hP))
                    clear hS hS' hJ hP hS2 hcell hfz hqc hdrop hg2
                    go_wp2_with fail
                    go_roundw
                    case rel =>
                      obtain ⟨g1, g2, g3⟩ := Hfin.out
                      exact ⟨m + 1, _, by omega, by go_num, (upd_len _ _ _).trans hL, g1, g2, g3⟩
                    case measure => simp [intOf]; omega
                  · have hlti : ¬ (m : Int) < (ss.length : Int) := by omega
                    obtain rfl : ss.length = m := by omega
                    rw [List.drop_length, patchY] at hP
                    subst hP
                    have HF := Lib.hid (DSt.end (k := k') _ HW1.out hS)
                    clear hS hJ hL
                    go_wp2_with fail
                    go_ret2
                    rw [← Hd.out]
                    exact HF.out
              · obtain ⟨y, rfl⟩ : ∃ y, z = y + 1 := ⟨z - 1, by omega⟩
                have hlt : ii < t.mx := by omega
                have hlen : ¬ (l'.length : Int) ≤ 3000 := by omega
                have Hd2 := Lib.hid True.intro
                rw [drou, if_pos (by omega)] at hd
                obtain ⟨V, hV⟩ : ∃ V, l'.length = V := ⟨_, rfl⟩
                rw [hV] at hd hS hJ hjs ⊢
                try rw [hV] at hlen
                have HV := Lib.hid hV
                have Hd := Lib.hid hd
                have HS3 := Lib.hid hS
                have HJ3 := Lib.hid hJ
                have Hjs := Lib.hid hjs
                clear hd hS hJ hjs hV hsz' hjl hk' Hd2
                go_wp2_with fail
                go_loopw [280] (fun i wr => ∃ (m : Nat) (L' : List Inn), m ≤ ss.length ∧ i = .int .i64 m ∧ L'.length = V ∧ DSt w0 W1 (.slice va l.length vc) L' (.slice va2 V vc2) wr ∧ JSt w0 W1 (.slice va2 V vc2) (.slice ja ss.length jc) ss wr ∧ patchY (V : Int) (ss.drop m) L' = patchY (V : Int) ss l') (fun i _ => ss.length - (intOf i).toNat)
                case atStart => exact ⟨0, l', by omega, rfl, HV.out, HS3.out, HJ3.out, rfl⟩
                case round =>
                  obtain ⟨m, L', hm, rfl, hL, hS, hJ, hP⟩ := hrel
                  by_cases hlt2 : m < ss.length
                  · have hlti : (m : Int) < (ss.length : Int) := by omega
                    obtain ⟨q, c, e1, hq, hnm2, hqc⟩ := jrow_cells hJ.row (by omega) rfl
                    injection e1 with e1 _ e2
                    subst e1
                    have Wi : IntKind.i64.wrap ((m : Int) + 1) = (m : Int) + 1 := IntWalk.i64_in _ (by omega)
                    have hji := hqc m hlt2
                    have hJl : ss[m] < V := Hjs.out _ (List.getElem_mem hlt2)
                    have hdrop : ss.drop m = ss[m] :: ss.drop (m + 1) := List.drop_eq_getElem_cons hlt2
                    obtain ⟨J, hJe⟩ : ∃ J, ss[m] = J := ⟨_, rfl⟩
                    rw [hJe] at hji hJl hdrop
                    rw [hdrop, patchY] at hP
                    have hJi : (J : Int) < (V : Int) := by omega
                    have hS' := hS
                    rw [← hL] at hS'
                    obtain ⟨hlc, hcm, q0, rfl, hq0, hcell, hfz⟩ := hS'.inst (by omega)
                    have hfy := hfz (J * 7 + 6)
                    have hcy : wr.cell? ⟨q0, J * 7 + 6, none⟩ = some (.int .i64 (L'[J]'(by omega)).y) := (hcell J (by omega) 6 (by omega)).trans rfl
                    obtain ⟨hS2, hg2⟩ := hS'.setY J (by omega) (V : Int)
                    rw [hL] at hS2 hlc
                    have Hfin := Lib.hid (And.intro hS2 (And.intro (hJ.list hg2 (.inl rfl)) hP))
                    clear hS hS' hJ hP hS2 hcell hfz hqc hdrop hg2
                    go_wp2_with fail
                    go_roundw
                    case rel =>
                      obtain ⟨g1, g2, g3⟩ := Hfin.out
                      exact ⟨m + 1, _, by omega, by go_num, (upd_len _ _ _).trans hL, g1, g2, g3⟩
                    case measure => simp [intOf]; omega
                  · have hlti : ¬ (m : Int) < (ss.length : Int) := by omega
                    obtain rfl : ss.length = m := by omega
                    rw [List.drop_length, patchY] at hP
                    subst hP
                    have HF := Lib.hid (DSt.end (k := k') _ HW1.out hS)
                    clear hS hJ hL
                    go_wp2_with fail
                    go_ret2
                    rw [← Hd.out]
                    exact HF.out
      · have hE4 : ((L.length : Int) == (l'.length : Int)) = false := by simp; omega
        rw [if_neg heq] at hd
        have Hd := Lib.hid hd
        have mK : K ≤ L.length := by omega
        have Hm := Lib.hid (And.intro mK hfew)
        clear hd hfew hgr hlp hk' heq mK hC
        go_wp2_with fail
        go_roundw
        case rel => exact ⟨m + 1, L, K, by omega, by go_num, rfl, HS2.out, by rw [hz9]; exact Hd.out, Hm.out.1, Hm.out.2⟩
        case measure => simp [intOf]; omega
    · have hlti : ¬ (m : Int) < t.mn := by omega
      obtain rfl : t.mn.toNat = m := by omega
      rw [Nat.sub_self, dcop] at hd
      have Hd := Lib.hid hd.symm
      obtain ⟨L, rfl⟩ : ∃ L, L = l' := ⟨_, rfl⟩
      obtain ⟨K, rfl⟩ : ∃ K, K = k' := ⟨_, rfl⟩
      obtain ⟨w7, rfl⟩ : ∃ w7, w7 = wr := ⟨_, rfl⟩
      obtain ⟨va2, vc2, rfl⟩ := co_form hS.row
      have HS2 := Lib.hid hS
      have mK := hk'
      have mL := hsz'
      clear hd hS hk' hsz'
      have hT2 := HTe.out
      rw [Hd.out] at hT2
      simp only at hT2
      obtain ⟨d0, d1, d2, d3, d4, d5, d6, d7, d8⟩ := DSt.box HT.out Hvl.out HS2.out
      have Wl : IntKind.i64.wrap ((L.length : Int) + 1) = (L.length : Int) + 1 := IntWalk.i64_in _ (by have := Hs.out; omega)
      have Wk : IntKind.i64.wrap ((K : Int) + 1) = (K : Int) + 1 := IntWalk.i64_in _ (by have := Hs.out; omega)
      have hm3 : L.length + 2 ≤ maxLen := by have := Hs.out; unfold maxLen; omega
      have hm4 : (L.length + 2) * 56 ≤ 140737488355328 := by have := Hs.out; omega
      have hsp : ((L.length + 1 : Nat) : Int) = (L.length : Int) + 1 := by omega
      have hk1 : ((K + 1 : Nat) : Int) = (K : Int) + 1 := by omega
      by_cases hmx1 : t.mx = -1
      · have hE : (t.mx == -1) = true := by simp [hmx1]
        rw [if_pos hmx1, dend, hsp] at hT2
        clear hmx1 hmx
        go_upto_region 50 with (at_builtin; go_loud (refine wpList_append_own_at _ rfl _ _ 39 rfl w0.heap.size 84 i0 (.agg #[.int .i64 0, .int .u64 0, .int .u64 0, .int .u64 0, .int .u64 0, .int .i64 0, .int .i64 0]) 7 56 Try.underlying39 hi hz0 hz1 hz2 rfl (by decide) (.slice va2 L.length vc2) L.length (inF L) rfl (HS2.out.below ((Below.refl _ w7).alloc (Nat.le_refl _) _)).row ⟨w7.heap.size, 0, none⟩ 2 2 (inC (ins 1 ((L.length : Int) + 1) 0) ++ inC (ins 7 K 0)) rfl rfl (by rw [← in2_ins]; exact in2_new w7 (ins 1 ((L.length : Int) + 1) 0) (ins 7 K 0) _) (in2_one _ _) hm3 hm4 (HS2.out.below ((Below.refl _ w7).alloc (Nat.le_refl _) _)).low.size ?_; intro v8 w8 hown8 hgr8 _ hat8))
        obtain ⟨g1, g2, g3⟩ := drow_more2 hown8 hgr8 hat8
        have HS3 := Lib.hid (HS2.out.step g1 g2 g3)
        obtain ⟨va3, vc3, rfl⟩ := co_form hown8
        clear hown8 hgr8 hat8 g1 g2 g3 d0 d1 d2 d3 d4 d5 d6 d7 d8
        obtain ⟨d0, d1, d2, d3, d4, d5, d6, d7, d8⟩ := DSt.box HT.out Hvl.out HS3.out
        have hO := hOf w8 HS3.out.low
        have hf2 := dl_few (canon (tof t)) (L ++ [ins 1 ((L.length : Int) + 1) 0, ins 7 K 0]) (K + 1)
        have hgr2 := (dl_lays (canon (tof t))).le (L ++ [ins 1 ((L.length : Int) + 1) 0, ins 7 K 0]) (K + 1)
        simp only [List.length_append, List.length_cons, List.length_nil] at hf2 hgr2
        have hC : ∀ a' cap' w', TrD N w0 (tof t) a' cap' → Below w0.heap.size w0 w' → DRow w0 w' (L ++ [ins 1 ((L.length : Int) + 1) 0, ins 7 K 0]) (.slice va3 (L.length + 2) vc3) → Calls Try.prog 26 #[.slice va3 (L.length + 2) vc3, tV (tof t) a' cap', .int .i64 ((K : Int) + 1)] w' (DAns w0 w' (.slice va3 (L.length + 2) vc3) (dl (canon (tof t)) (L ++ [ins 1 ((L.length : Int) + 1) 0, ins 7 K 0]) (K + 1))) := fun a' cap' w' h1 h2 h3 => by
          rw [← hk1]
          by_cases hL : 3000 < (L ++ [ins 1 ((L.length : Int) + 1) 0, ins 7 K 0]).length
          · exact dlay_long N (tof t) a' cap' w0 w' _ (K + 1) _ h3 hL
          · exact ih (tof t) a' cap' w0 w' _ (K + 1) _ h1 h2 h3 (by have := Hs.out; omega) (by simp only [List.length_append, List.length_cons, List.length_nil]; omega) Hc.out
        obtain ⟨R2, hR2⟩ : ∃ R2, dl (canon (tof t)) (L ++ [ins 1 ((L.length : Int) + 1) 0, ins 7 K 0]) (K + 1) = R2 := ⟨_, rfl⟩
        rw [hR2] at hC hT2 hf2 hgr2
        obtain ⟨L2, K2⟩ := R2
        simp only at hT2 hf2 hgr2
        have hsp2 : ((L2.length + 2 : Nat) : Int) = (L2.length : Int) + 2 := by omega
        rw [hsp2] at hT2
        have hm5 : L2.length + 2 ≤ maxLen := by have := Hs.out; unfold maxLen; omega
        have hm6 : (L2.length + 2) * 56 ≤ 140737488355328 := by have := Hs.out; omega
        have hsX : (L.length : Int) < (L2.length : Int) + 2 := by omega
        have HC := Lib.hid hC
        have HT2 := Lib.hid hT2
        have Hgr2 := Lib.hid hgr2
        clear hC hT2 hf2 hgr2 hR2 hsp hsp2 hk1
        go_upto_region 51 with (first | (go_at_call 36; refine hO.mono ?_; rintro e wO ⟨a', cap', rfl, hrO, bO⟩; have hC := HC.out a' cap' wO hrO (HS3.out.below bO).low (HS3.out.below bO).row; unfold tV at hC) | (go_at_call 26; refine hC.mono ?_; rintro e w9 hA; obtain ⟨v2, rfl, g2, g3, g4⟩ := hA; replace g2 : DRow w0 w9 L2 v2 := g2; have HS4 := Lib.hid ((HS3.out.below bO).step g2 g3 g4); obtain ⟨va4, vc4, rfl⟩ := co_form g2; clear g2 g3 g4))
        go_upto_region 52 with (at_builtin; refine wpList_append_own_at _ rfl _ _ 39 rfl w0.heap.size 84 i0 (.agg #[.int .i64 0, .int .u64 0, .int .u64 0, .int .u64 0, .int .u64 0, .int .i64 0, .int .i64 0]) 7 56 Try.underlying39 hi hz0 hz1 hz2 rfl (by decide) (.slice va4 L2.length vc4) L2.length (inF L2) rfl (HS4.out.below ((Below.refl _ w9).alloc (Nat.le_refl _) _)).row ⟨w9.heap.size, 0, none⟩ 2 2 (inC (ins 8 K 0) ++ inC (ins 2 L.length 0)) rfl rfl (by rw [← in2_ins]; exact in2_new w9 (ins 8 K 0) (ins 2 L.length 0) _) (in2_one _ _) hm5 hm6 (HS4.out.below ((Below.refl _ w9).alloc (Nat.le_refl _) _)).low.size ?_; intro v8 w10 hown8 hgr8 _ hat8)
        obtain ⟨g1, g2, g3⟩ := drow_more2 hown8 hgr8 hat8
        have HS5 := Lib.hid (HS4.out.step g1 g2 g3)
        obtain ⟨va5, vc5, rfl⟩ := co_form hown8
        clear hown8 hgr8 hat8 g1 g2 g3
        have hlen : (L2 ++ [ins 8 K 0, ins 2 L.length 0]).length = L2.length + 2 := by simp
        have hS' : DSt w0 W1 (.slice va l.length vc) (L2 ++ [ins 8 K 0, ins 2 L.length 0]) (.slice va5 (L2 ++ [ins 8 K 0, ins 2 L.length 0]).length vc5) w10 := by rw [hlen]; exact HS5.out
        obtain ⟨hlc, hcm, p0, rfl, hp0, hcell, hfz⟩ := hS'.inst (by omega)
        have hfy := hfz (L.length * 7 + 6)
        have hbd : L.length < (L2 ++ [ins 8 K 0, ins 2 L.length 0]).length := by omega
        have hcy : w10.cell? ⟨p0, L.length * 7 + 6, none⟩ = some (.int .i64 ((L2 ++ [ins 8 K 0, ins 2 L.length 0])[L.length]'hbd).y) := (hcell L.length hbd 6 (by omega)).trans rfl
        obtain ⟨hS5, hg5⟩ := hS'.setY L.length hbd ((L2.length : Int) + 2)
        rw [hlen] at hS5 hlc
        have HF := Lib.hid (DSt.end (k := K2) _ HW1.out hS5)
        clear hS' hS5 hg5 hcell hfz hlen
        go_wp2_with fail
        go_ret2
        rw [← HT2.out]
        exact HF.out
      · have hE : (t.mx == -1) = false := by simp [hmx1]
        rw [if_neg hmx1] at hT2
        have hmm : t.mn ≤ t.mx ∧ t.mx ≤ 255 := by rcases hmx with h | h; exact absurd h hmx1; exact h
        have HT2 := Lib.hid hT2
        clear hmx1 hmx hT2 hsp hk1 Wl Wk hm3 hm4
        go_wp2_with fail
        go_loopw [0, 2, 17, 18] (fun vv kk jv iv wr => ∃ (z : Nat) (ii : Int) (l' : List Inn) (k' : Nat) (ss : List Nat), 0 ≤ ii ∧ ii + z = t.mx ∧ iv = .int .i64 ii ∧ kk = .int .i64 k' ∧ DSt w0 W1 (.slice va l.length vc) l' vv wr ∧ JSt w0 W1 vv jv ss wr ∧ drou (fun l k => dl (canon (tof t)) l k) z ss l' k' = T ∧ k' ≤ l'.length ∧ l'.length ≤ 3001 + 6 * nsize (canon (tof t)) ∧ (∀ x ∈ ss, x < l'.length) ∧ ss.length ≤ l'.length) (fun _ _ _ iv _ => (t.mx - intOf iv).toNat)
        case atStart => exact ⟨(t.mx - t.mn).toNat, t.mn, L, K, [], by omega, by omega, rfl, rfl, HS2.out, jst_nil _ _ _ _, HT2.out, mK, by omega, fun x hx => (by cases hx), by simp⟩
        case round =>
          obtain ⟨z, ii, l', k', ss, hi0, hz, rfl, rfl, hS, hJ, hd, hk', hsz', hjs, hjl⟩ := hrel
          obtain ⟨c0, c1, c2, c3, c4, c5, c6, c7, c8⟩ := DSt.box HT.out Hvl.out hS
          obtain ⟨va2, vc2, rfl⟩ := co_form hS.row
          obtain ⟨ja, jc, rfl⟩ := co_form hJ.row
          by_cases hgo : 0 < z ∧ l'.length ≤ 3000
          · obtain ⟨y, rfl⟩ : ∃ y, z = y + 1 := ⟨z - 1, by omega⟩
            obtain ⟨_, hl3⟩ := hgo
            have hlt : ii < t.mx := by omega
            have hlen : (l'.length : Int) ≤ 3000 := by omega
            have hsp : ((l'.length + 1 : Nat) : Int) = (l'.length : Int) + 1 := by omega
            have hk1 : ((k' + 1 : Nat) : Int) = (k' : Int) + 1 := by omega
            rw [drou, if_neg (by omega), hsp] at hd
            have Wl : IntKind.i64.wrap ((l'.length : Int) + 1) = (l'.length : Int) + 1 := IntWalk.i64_in _ (by omega)
            have Wk : IntKind.i64.wrap ((k' : Int) + 1) = (k' : Int) + 1 := IntWalk.i64_in _ (by omega)
            have Wi : IntKind.i64.wrap (ii + 1) = ii + 1 := IntWalk.i64_in _ (by omega)
            have hm3 : l'.length + 2 ≤ maxLen := by unfold maxLen; omega
            have hm4 : (l'.length + 2) * 56 ≤ 140737488355328 := by omega
            have hmj1 : ss.length + 1 ≤ maxLen := by unfold maxLen; omega
            have hmj2 : (ss.length + 1) * 8 ≤ 140737488355328 := by omega
            have hf2 := dl_few (canon (tof t)) (l' ++ [ins 1 ((l'.length : Int) + 1) 0, ins 7 k' 0]) (k' + 1)
            have hlp2 := dl_lps (canon (tof t)) (l' ++ [ins 1 ((l'.length : Int) + 1) 0, ins 7 k' 0]) (k' + 1)
            have hgr2 := (dl_lays (canon (tof t))).le (l' ++ [ins 1 ((l'.length : Int) + 1) 0, ins 7 k' 0]) (k' + 1)
            simp only [List.length_append, List.length_cons, List.length_nil] at hf2 hgr2 hlp2
            have hC : ∀ a' cap' w', TrD N w0 (tof t) a' cap' → Below w0.heap.size w0 w' → ∀ va3 vc3, DRow w0 w' (l' ++ [ins 1 ((l'.length : Int) + 1) 0, ins 7 k' 0]) (.slice va3 (l'.length + 2) vc3) → Calls Try.prog 26 #[.slice va3 (l'.length + 2) vc3, tV (tof t) a' cap', .int .i64 ((k' : Int) + 1)] w' (DAns w0 w' (.slice va3 (l'.length + 2) vc3) (dl (canon (tof t)) (l' ++ [ins 1 ((l'.length : Int) + 1) 0, ins 7 k' 0]) (k' + 1))) := fun a' cap' w' h1 h2 va3 vc3 h3 => by
              rw [← hk1]
              by_cases hL : 3000 < (l' ++ [ins 1 ((l'.length : Int) + 1) 0, ins 7 k' 0]).length
              · exact dlay_long N (tof t) a' cap' w0 w' _ (k' + 1) _ h3 hL
              · exact ih (tof t) a' cap' w0 w' _ (k' + 1) _ h1 h2 h3 (by have := Hs.out; omega) (by simp only [List.length_append, List.length_cons, List.length_nil]; omega) Hc.out
            obtain ⟨R2, hR2⟩ : ∃ R2, dl (canon (tof t)) (l' ++ [ins 1 ((l'.length : Int) + 1) 0, ins 7 k' 0]) (k' + 1) = R2 := ⟨_, rfl⟩
            rw [hR2] at hC hd hf2 hgr2 hlp2
            obtain ⟨L2, K2⟩ := R2
            simp only at hd hf2 hgr2 hlp2
            have hm5 : L2.length + 1 ≤ maxLen := by have := Hs.out; unfold maxLen; omega
            have hm6 : (L2.length + 1) * 56 ≤ 140737488355328 := by have := Hs.out; omega
            have g5 : K2 ≤ L2.length + 1 := by omega
            have g6 : L2.length + 1 ≤ 3001 + 6 * nsize (canon (tof t)) := by omega
            have g7 : ∀ x ∈ ss ++ [l'.length], x < L2.length + 1 := fun x hx => by
              rcases List.mem_append.1 hx with hx | hx
              · have := hjs x hx; omega
              · rw [List.mem_singleton.1 hx]; omega
            have g8 : ss.length + 1 ≤ L2.length + 1 := by omega
            have HC := Lib.hid hC
            have Hd := Lib.hid hd
            have Hm := Lib.hid (And.intro g5 (And.intro g6 (And.intro g7 g8)))
            have HS2 := Lib.hid hS
            have HJ2 := Lib.hid hJ
            clear hC hd hS hJ hf2 hgr2 hlp2 hR2 hsp hk1 g5 g6 g7 g8 hjs hjl hsz' hk' hl3
            go_upto_region 58 with (at_builtin; go_loud (refine wpList_append_own_at _ rfl _ _ 92 rfl w0.heap.size 3 i1 (.int .i64 0) 1 8 Try.underlying92 hi1 hy0 hy1 hy2 rfl (by decide) (.slice ja ss.length jc) ss.length (jvOf ss) rfl (HJ2.out.below ((Below.refl _ wr).alloc (Nat.le_refl _) _)).row ⟨wr.heap.size, 0, none⟩ 1 1 [.int .i64 (l'.length : Int)] rfl rfl (cells_one_new wr _ _) (fun u hu => by obtain rfl := List.mem_singleton.1 hu; rfl) hmj1 hmj2 (HS2.out.below ((Below.refl _ wr).alloc (Nat.le_refl _) _)).low.size ?_; intro v8 w8 hown8 hgr8 _ hat8))
            obtain ⟨hS3, hJ3⟩ := (HS2.out.below ((Below.refl _ wr).alloc (Nat.le_refl _) _)).jrow (js' := ss ++ [l'.length]) (HJ2.out.below ((Below.refl _ wr).alloc (Nat.le_refl _) _)) (by rw [jvOf_snoc, List.length_append]; exact hown8) hgr8 (hat8.imp id fun h => ⟨_, h, Nat.le_refl _⟩)
            obtain ⟨ja3, jc3, rfl⟩ := co_form hown8
            have HS3 := Lib.hid hS3
            have HJ3 := Lib.hid hJ3
            clear hS3 hJ3 hown8 hgr8 hat8 c0 c1 c2 c3 c4 c5 c6 c7 c8
            go_upto_region 60 with (at_builtin; go_loud (refine wpList_append_own_at _ rfl _ _ 39 rfl w0.heap.size 84 i0 (.agg #[.int .i64 0, .int .u64 0, .int .u64 0, .int .u64 0, .int .u64 0, .int .i64 0, .int .i64 0]) 7 56 Try.underlying39 hi hz0 hz1 hz2 rfl (by decide) (.slice va2 l'.length vc2) l'.length (inF l') rfl (HS3.out.below ((Below.refl _ w8).alloc (Nat.le_refl _) _)).row ⟨w8.heap.size, 0, none⟩ 2 2 (inC (ins 1 ((l'.length : Int) + 1) 0) ++ inC (ins 7 k' 0)) rfl rfl (by rw [← in2_ins]; exact in2_new w8 (ins 1 ((l'.length : Int) + 1) 0) (ins 7 k' 0) _) (in2_one _ _) hm3 hm4 (HS3.out.below ((Below.refl _ w8).alloc (Nat.le_refl _) _)).low.size ?_; intro v9 w9 hown9 hgr9 _ hat9))
            obtain ⟨g1, g2, g3⟩ := drow_more2 hown9 hgr9 hat9
            have HS4 := Lib.hid (HS3.out.step g1 g2 g3)
            have HJ4 := Lib.hid (HJ3.out.list g2 g3)
            obtain ⟨va4, vc4, rfl⟩ := co_form hown9
            clear hown9 hgr9 hat9 g1 g2 g3
            obtain ⟨c0, c1, c2, c3, c4, c5, c6, c7, c8⟩ := DSt.box HT.out Hvl.out HS4.out
            have hO := hOf w9 HS4.out.low
            go_upto_region 61 with (first | (go_at_call 36; refine hO.mono ?_; rintro e wO ⟨a', cap', rfl, hrO, bO⟩; have hC := HC.out a' cap' wO hrO (HS4.out.below bO).low _ _ (HS4.out.below bO).row; unfold tV at hC) | (go_at_call 26; refine hC.mono ?_; rintro e w10 hA; obtain ⟨v2, rfl, g2, g3, g4⟩ := hA; replace g2 : DRow w0 w10 L2 v2 := g2; have HS5 := Lib.hid ((HS4.out.below bO).step g2 g3 g4); have HJ5 := Lib.hid ((HJ4.out.below bO).list g3 g4); obtain ⟨va5, vc5, rfl⟩ := co_form g2; clear g2 g3 g4))
            go_upto_region 56 with (at_builtin; go_loud (refine wpList_append_own_at _ rfl _ _ 39 rfl w0.heap.size 84 i0 (.agg #[.int .i64 0, .int .u64 0, .int .u64 0, .int .u64 0, .int .u64 0, .int .i64 0, .int .i64 0]) 7 56 Try.underlying39 hi hz0 hz1 hz2 rfl (by decide) (.slice va5 L2.length vc5) L2.length (inF L2) rfl (HS5.out.below ((Below.refl _ w10).alloc (Nat.le_refl _) _)).row ⟨w10.heap.size, 0, none⟩ 1 1 (inC (ins 8 k' 0)) rfl rfl (by rw [← inC_ins]; exact inC_new w10 (ins 8 k' 0) _ _ rfl) (inC_one _) hm5 hm6 (HS5.out.below ((Below.refl _ w10).alloc (Nat.le_refl _) _)).low.size ?_; intro v11 w11 hown9 hgr9 _ hat9))
            obtain ⟨g1, g2, g3⟩ := drow_more hown9 hgr9 hat9
            have HS6 := Lib.hid (HS5.out.step g1 g2 g3)
            have HJ6 := Lib.hid (HJ5.out.list g2 g3)
            obtain ⟨va6, vc6, rfl⟩ := co_form hown9
            clear hown9 hgr9 hat9 g1 g2 g3
            go_wp2_with fail
            go_roundw
            case rel =>
              obtain ⟨f1, f2, f3, f4⟩ := Hm.out
              refine ⟨y, ii + 1, _, K2, ss ++ [l'.length], by omega, by omega, by go_num, rfl, HS6.out, HJ6.out, Hd.out, ?_, ?_, ?_, ?_⟩
              · rw [List.length_append]; exact f1
              · rw [List.length_append]; exact f2
              · rw [List.length_append]; exact f3
              · rw [List.length_append, List.length_append]; exact f4
            case measure => simp [intOf]; omega
          · by_cases hz9 : z = 0
            · subst hz9
              have hlt : ¬ ii < t.mx := by omega
              have hlen : True := trivial
              have Hd2 := Lib.hid True.intro
              rw [drou] at hd
              obtain ⟨V, hV⟩ : ∃ V, l'.length = V := ⟨_, rfl⟩
              rw [hV] at hd hS hJ hjs ⊢
              try rw [hV] at hlen
              have HV := Lib.hid hV
              have Hd := Lib.hid hd
              have HS3 := Lib.hid hS
              have HJ3 := Lib.hid hJ
              have Hjs := Lib.hid hjs
              clear hd hS hJ hjs hV hsz' hjl hk' Hd2
              go_wp2_with fail
              go_loopw [280] (fun i wr => ∃ (m : Nat) (L' : List Inn), m ≤ ss.length ∧ i = .int .i64 m ∧ L'.length = V ∧ DSt w0 W1 (.slice va l.length vc) L' (.slice va2 V vc2) wr ∧ JSt w0 W1 (.slice va2 V vc2) (.slice ja ss.length jc) ss wr ∧ patchY (V : Int) (ss.drop m) L' = patchY (V : Int) ss l') (fun i _ => ss.length - (intOf i).toNat)
              case atStart => exact ⟨0, l', by omega, rfl, HV.out, HS3.out, HJ3.out, rfl⟩
              case round =>
                obtain ⟨m, L', hm, rfl, hL, hS, hJ, hP⟩ := hrel
                by_cases hlt2 : m < ss.length
                · have hlti : (m : Int) < (ss.length : Int) := by omega
                  obtain ⟨q, c, e1, hq, hnm2, hqc⟩ := jrow_cells hJ.row (by omega) rfl
                  injection e1 with e1 _ e2
                  subst e1
                  have Wi : IntKind.i64.wrap ((m : Int) + 1) = (m : Int) + 1 := IntWalk.i64_in _ (by omega)
                  have hji := hqc m hlt2
                  have hJl : ss[m] < V := Hjs.out _ (List.getElem_mem hlt2)
                  have hdrop : ss.drop m = ss[m] :: ss.drop (m + 1) := List.drop_eq_getElem_cons hlt2
                  obtain ⟨J, hJe⟩ : ∃ J, ss[m] = J := ⟨_, rfl⟩
                  rw [hJe] at hji hJl hdrop
                  rw [hdrop, patchY] at hP
                  have hJi : (J : Int) < (V : Int) := by omega
                  have hS' := hS
                  rw [← hL] at hS'
                  obtain ⟨hlc, hcm, q0, rfl, hq0, hcell, hfz⟩ := hS'.inst (by omega)
                  have hfy := hfz (J * 7 + 6)
                  have hcy : wr.cell? ⟨q0, J * 7 + 6, none⟩ = some (.int .i64 (L'[J]'(by omega)).y) := (hcell J (by omega) 6 (by omega)).trans rfl
                  obtain ⟨hS2, hg2⟩ := hS'.setY J (by omega) (V : Int)
                  rw [hL] at hS2 hlc
                  have Hfin := Lib.hid (And.intro hS2 (And.intro (hJ.list hg2 (.inl rfl)) hP))
                  clear hS hS' hJ hP hS2 hcell hfz hqc hdrop hg2
                  go_wp2_with fail
                  go_roundw
                  case rel =>
                    obtain ⟨g1, g2, g3⟩ := Hfin.out
                    exact ⟨m + 1, _, by omega, by go_num, (upd_len _ _ _).trans hL, g1, g2, g3⟩
                  case measure => simp [intOf]; omega
                · have hlti : ¬ (m : Int) < (ss.length : Int) := by omega
                  obtain rfl : ss.length = m := by omega
                  rw [List.drop_length, patchY] at hP
                  subst hP
                  have HF := Lib.hid (DSt.end (k := k') _ HW1.out hS)
                  clear hS hJ hL
                  go_wp2_with fail
                  go_ret2
                  rw [← Hd.out]
                  exact HF.out
            · obtain ⟨y, rfl⟩ : ∃ y, z = y + 1 := ⟨z - 1, by omega⟩
              have hlt : ii < t.mx := by omega
              have hlen : ¬ (l'.length : Int) ≤ 3000 := by omega
              have Hd2 := Lib.hid True.intro
              rw [drou, if_pos (by omega)] at hd
              obtain ⟨V, hV⟩ : ∃ V, l'.length = V := ⟨_, rfl⟩
              rw [hV] at hd hS hJ hjs ⊢
              try rw [hV] at hlen
              have HV := Lib.hid hV
              have Hd := Lib.hid hd
              have HS3 := Lib.hid hS
              have HJ3 := Lib.hid hJ
              have Hjs := Lib.hid hjs
              clear hd hS hJ hjs hV hsz' hjl hk' Hd2
              go_wp2_with fail
              go_loopw [280] (fun i wr => ∃ (m : Nat) (L' : List Inn), m ≤ ss.length ∧ i = .int .i64 m ∧ L'.length = V ∧ DSt w0 W1 (.slice va l.length vc) L' (.slice va2 V vc2) wr ∧ JSt w0 W1 (.slice va2 V vc2) (.slice ja ss.length jc) ss wr ∧ patchY (V : Int) (ss.drop m) L' = patchY (V : Int) ss l') (fun i _ => ss.length - (intOf i).toNat)
              case atStart => exact ⟨0, l', by omega, rfl, HV.out, HS3.out, HJ3.out, rfl⟩
              case round =>
                obtain ⟨m, L', hm, rfl, hL, hS, hJ, hP⟩ := hrel
                by_cases hlt2 : m < ss.length
                · have hlti : (m : Int) < (ss.length : Int) := by omega
                  obtain ⟨q, c, e1, hq, hnm2, hqc⟩ := jrow_cells hJ.row (by omega) rfl
                  injection e1 with e1 _ e2
                  subst e1
                  have Wi : IntKind.i64.wrap ((m : Int) + 1) = (m : Int) + 1 := IntWalk.i64_in _ (by omega)
                  have hji := hqc m hlt2
                  have hJl : ss[m] < V := Hjs.out _ (List.getElem_mem hlt2)
                  have hdrop : ss.drop m = ss[m] :: ss.drop (m + 1) := List.drop_eq_getElem_cons hlt2
                  obtain ⟨J, hJe⟩ : ∃ J, ss[m] = J := ⟨_, rfl⟩
                  rw [hJe] at hji hJl hdrop
                  rw [hdrop, patchY] at hP
                  have hJi : (J : Int) < (V : Int) := by omega
                  have hS' := hS
                  rw [← hL] at hS'
                  obtain ⟨hlc, hcm, q0, rfl, hq0, hcell, hfz⟩ := hS'.inst (by omega)
                  have hfy := hfz (J * 7 + 6)
                  have hcy : wr.cell? ⟨q0, J * 7 + 6, none⟩ = some (.int .i64 (L'[J]'(by omega)).y) := (hcell J (by omega) 6 (by omega)).trans rfl
                  obtain ⟨hS2, hg2⟩ := hS'.setY J (by omega) (V : Int)
                  rw [hL] at hS2 hlc
                  have Hfin := Lib.hid (And.intro hS2 (And.intro (hJ.list hg2 (.inl rfl)) hP))
                  clear hS hS' hJ hP hS2 hcell hfz hqc hdrop hg2
                  go_wp2_with fail
                  go_roundw
                  case rel =>
                    obtain ⟨g1, g2, g3⟩ := Hfin.out
                    exact ⟨m + 1, _, by omega, by go_num, (upd_len _ _ _).trans hL, g1, g2, g3⟩
                  case measure => simp [intOf]; omega
                · have hlti : ¬ (m : Int) < (ss.length : Int) := by omega
                  obtain rfl : ss.length = m := by omega
                  rw [List.drop_length, patchY] at hP
                  subst hP
                  have HF := Lib.hid (DSt.end (k := k') _ HW1.out hS)
                  clear hS hJ hL
                  go_wp2_with fail
                  go_ret2
                  rw [← Hd.out]
                  exact HF.out
end Go.Proofs.Ytihfenkphhnbcaa
