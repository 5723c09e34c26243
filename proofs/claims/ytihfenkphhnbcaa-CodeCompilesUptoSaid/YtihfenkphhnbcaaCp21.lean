/- The proof's texts ClK, ClO: what the claim reaches of them. -/
import Derived.Test.YtihfenkphhnbcaaCp07
import Derived.Test.YtihfenkphhnbcaaCp20
namespace Go.Proofs.Ytihfenkphhnbcaa
open Go Go.RowKit
set_option linter.unusedVariables false in
set_option linter.unusedSimpArgs false in
set_option maxRecDepth 100000 in
set_option maxHeartbeats 4000000 in
theorem dlay_alt (N : Nat) (ih : LayC N) (t : Tr) (a : Option Addr) (cap : Nat) (w0 w : World) (l : List Inn) (k : Nat) (v : Value) (h : TrD (N + 1) w0 t a cap) (hb : Below w0.heap.size w0 w) (hr : DRow w0 w l v) (hs : max l.length 3000 + 6 * nsize (canon t) ≤ 100000) (hk : k ≤ l.length) (hc : cok (canon t) = true) (hlong : ¬ 3000 < l.length) (h3 : t.kind = 3) :
    Calls Try.prog 26 #[v, tV t a cap, .int .i64 (k : Int)] w (DAns w0 w v (dl (canon t) l k)) := by
  have e1 : (t.kind == 1) = false := by simp [h3]
  have e7 : (t.kind == 7) = false := by simp [h3]
  have e8 : (t.kind == 8) = false := by simp [h3]
  have e6 : (t.kind == 6) = false := by simp [h3]
  have e2 : (t.kind == 2) = false := by simp [h3]
  have e3 : (t.kind == 3) = true := by simp [h3]
  have e5 : (t.kind == 5) = false := by simp [h3]
  have e4 : (t.kind == 4) = false := by simp [h3]
  have hp : tkids t = t.parts := by unfold tkids; rw [if_pos (.inr h3)]
  rw [canon_3 t h3, hp] at hs hc ⊢
  simp only [dl]
  rw [if_neg hlong]
  rw [nsize] at hs
  rw [cok, Bool.and_eq_true, decide_eq_true_eq, List.length_map] at hc
  have hrow := h.row
  obtain ⟨va, vc, rfl⟩ := co_form hr
  have hvl := fun b hb => co_own_lt hr b hb
  have hl : ¬ (3000 : Int) < (l.length : Int) := by omega
  have hA1 : Below w.heap.size w (w.alloc (.cells (tC t a cap) 27)) := (Below.refl _ w).alloc (Nat.le_refl _) _
  have hbs := hb.size
  have hT := Blk.new w (tC t a cap) 27 _ rfl
  obtain ⟨W1, hW1⟩ : ∃ W1, w.alloc (.cells (tC t a cap) 27) = W1 := ⟨_, rfl⟩
  have hS0 : DSt w0 W1 (.slice va l.length vc) l (.slice va l.length vc) W1 := by
    rw [← hW1]
    exact ⟨nd_own_below hr hA1, World.grownBy.refl _ _, .inl rfl, hb.trans (hA1.mono hbs)⟩
  rw [hW1] at hT
  have HS0 := Lib.hid hS0
  have HT := Lib.hid hT
  have Hvl := Lib.hid hvl
  have HW1 := Lib.hid hW1
  obtain ⟨q0, q1, q2, q3, q4, q5, q6, q7, q8⟩ := blk9 hT
  have hnm : t.parts.length ≤ maxLen := by have h1 := hrow.1; have h2 := hrow.2.1; omega
  have HRow := Lib.hid hrow.2.2
  have hn2 := hc.1
  have Hc := Lib.hid (coks_mem t.parts hc.2)
  unfold maxLen at hnm
  have hW1' : w.alloc (.cells #[.int .i64 t.kind, .int .u64 (ow t.set 0), .int .u64 (ow t.set 1), .int .u64 (ow t.set 2), .int .u64 (ow t.set 3), .slice a t.parts.length cap, .int .i64 t.mn, .int .i64 t.mx, .int .i64 t.num] 27) = W1 := hW1
  obtain ⟨i0, hi, hz0, hz1, hz2⟩ := dinst_info
  obtain ⟨i1, hi1, hy0, hy1, hy2⟩ := jint_info
  have hmix : Try.prog.follows .mixedOrders = true := by kernel_rfl
  clear hr hb hA1 hT hS0 hvl hW1 h hrow hc hp h3
  unfold tV
  go_enter Try.func26, Try.ntmps26
  go_wp2_with fail
  go_loopw [0, 2, 9, 85] (fun vv kk jv i wr => ∃ (j : Nat) (l' : List Inn) (k' : Nat) (js : List Nat), j < t.parts.length ∧ i = .int .i64 j ∧ kk = .int .i64 k' ∧ DSt w0 W1 (.slice va l.length vc) l' vv wr ∧ JSt w0 W1 vv jv js wr ∧ dla ((t.parts.map canon).drop j) js l' k' = dla (t.parts.map canon) [] l k ∧ k' ≤ l'.length ∧ max l'.length 3000 + 6 * nsizes ((t.parts.map canon).drop j) ≤ 100000 ∧ (∀ x ∈ js, x < l'.length) ∧ js.length ≤ l'.length) (fun _ _ _ i _ => t.parts.length - (intOf i).toNat)
  case atStart => exact ⟨0, l, k, [], by omega, rfl, rfl, HS0.out, jst_nil _ _ _ _, rfl, hk, by rw [List.drop_zero]; omega, fun x hx => (by cases hx), by simp⟩
  case round =>
    obtain ⟨j, l', k', js, hlt, rfl, rfl, hS, hJ, hd, hk', hsz', hjs, hjl⟩ := hrel
    have hbx := DSt.box HT.out Hvl.out hS
    obtain ⟨c0, c1, c2, c3, c4, c5, c6, c7, c8⟩ := hbx
    obtain ⟨b, o, rfl, hbl, hx⟩ := HRow.out (by omega)
    obtain ⟨a', cap', h9, hr⟩ := hx j hlt
    have H9 := Lib.hid h9
    replace h9 := h9.below hS.low hbl
    have hdr : (t.parts.map canon).drop j = canon t.parts[j] :: (t.parts.map canon).drop (j + 1) := by rw [List.drop_eq_getElem_cons (by simpa using hlt), List.getElem_map]
    rw [hdr, nsizes] at hsz'
    rw [hdr, dla] at hd
    have hcx := Hc.out _ (List.getElem_mem hlt)
    have hji : (j : Int) < (t.parts.length : Int) := by omega
    have Wj : IntKind.i64.wrap ((j : Int) + 1) = (j : Int) + 1 := IntWalk.i64_in _ (by omega)
    obtain ⟨x0, x1, x2, x3, x4, x5, x6, x7, x8⟩ := h9
    obtain ⟨ja, jc, rfl⟩ := co_form hJ.row
    have hmt : ((t.parts.map canon).drop (j + 1)).length = t.parts.length - (j + 1) := by simp
    have Hr := Lib.hid hr
    generalize t.parts[j] = x at *
    have hone := nsize_one (canon x)
    obtain ⟨va5, vc5, rfl⟩ := co_form hS.row
    by_cases hlast : j + 1 = t.parts.length
    · have hE : ((j : Int) + 1 == (t.parts.length : Int)) = true := by simp; omega
      rw [List.drop_of_length_le (by simp; omega)] at hd
      have hC := ih x a' cap' w0 wr l' k' _ hr hS.low hS.row (by omega) hk' hcx
      have hf := dl_few (canon x) l' k'
      have hgr : l'.length ≤ (dl (canon x) l' k').1.length := (dl_lays (canon x)).le l' k'
      simp only at hf
      simp only [List.isEmpty_nil, if_true] at hd
      obtain ⟨R, hR⟩ : ∃ R, dl (canon x) l' k' = R := ⟨_, rfl⟩
      rw [hR] at hC hd hf hgr
      obtain ⟨L, K⟩ := R
      simp only at hd hf hgr
      obtain ⟨V, hV⟩ : ∃ V, L.length = V := ⟨_, rfl⟩
      rw [hV] at hd hf hgr
      have HV := Lib.hid hV
      have Hd := Lib.hid hd
      have HSt := Lib.hid hS
      have HJ := Lib.hid hJ
      have Hjs := Lib.hid (show ∀ x ∈ js, x < V from fun x hx => Nat.lt_of_lt_of_le (hjs x hx) hgr)
      unfold tV at hC
      clear hd hS hJ hx hr hcx hk' hone hdr hjs hR hV hlast hmt
      go_wp2_with (go_at_call 26; refine hC.mono ?_; clear hC; rintro e w6 hA; obtain ⟨v2, rfl, g2, g3, g4⟩ := hA; have HS2 := Lib.hid (HSt.out.step g2 g3 g4); have HJ2 := Lib.hid (HJ.out.list g3 g4); obtain ⟨va2, vc2, rfl⟩ := co_form g2; clear g2 g3 g4; rw [HV.out] at HS2 HJ2 ⊢)
      go_loopw [141] (fun i wr => ∃ (m : Nat) (L' : List Inn), m ≤ js.length ∧ i = .int .i64 m ∧ L'.length = V ∧ DSt w0 W1 (.slice va l.length vc) L' (.slice va2 V vc2) wr ∧ JSt w0 W1 (.slice va2 V vc2) (.slice ja js.length jc) js wr ∧ patch (V : Int) (js.drop m) L' = patch (V : Int) js L) (fun i _ => js.length - (intOf i).toNat)
      case atStart => exact ⟨0, L, by omega, rfl, HV.out, HS2.out, HJ2.out, rfl⟩
      case round =>
        obtain ⟨m, L', hm, rfl, hL, hS, hJ, hP⟩ := hrel
        by_cases hlt2 : m < js.length
        · have hlti : (m : Int) < (js.length : Int) := by omega
          obtain ⟨q, c, e1, hq, hnm2, hqc⟩ := jrow_cells hJ.row (by omega) rfl
          injection e1 with e1 _ e2
          subst e1
          have Wi : IntKind.i64.wrap ((m : Int) + 1) = (m : Int) + 1 := IntWalk.i64_in _ (by omega)
          have hji := hqc m hlt2
          have hJl : js[m] < V := Hjs.out _ (List.getElem_mem hlt2)
          have hdrop : js.drop m = js[m] :: js.drop (m + 1) := List.drop_eq_getElem_cons hlt2
          obtain ⟨J, hJe⟩ : ∃ J, js[m] = J := ⟨_, rfl⟩
          rw [hJe] at hji hJl hdrop
          rw [hdrop, patch] at hP
          have hJi : (J : Int) < (V : Int) := by omega
          have hS' := hS
          rw [← hL] at hS'
          obtain ⟨hlc, hcm, q0, rfl, hq0, hcell, hfz⟩ := hS'.inst (by omega)
          have hfy := hfz (J * 7 + 5)
          have hcy : wr.cell? ⟨q0, J * 7 + 5, none⟩ = some (.int .i64 (L'[J]'(by omega)).x) := (hcell J (by omega) 5 (by omega)).trans rfl
          obtain ⟨hS2, hg2⟩ := hS'.setX J (by omega) (V : Int)
          rw [hL] at hS2 hlc
          have Hfin := Lib.hid (And.intro hS2 (And.intro (hJ.list hg2 (.inl rfl)) hP))
          clear hS hS' hJ hP hS2 hcell hfz hqc hdrop hg2
          go_wp2_with fail
          go_roundw
          case rel =>
            obtain ⟨g1, g2, g3⟩ := Hfin.out
            exact ⟨m + 1, _, by omega, by go_num, (upd_len _ _ _).trans hL, g1, g2, g3⟩
          case measure => simp [intOf]; omega
        · have hlti : ¬ (m : Int) < (js.length : Int) := by omega
          obtain rfl : js.length = m := by omega
          rw [List.drop_length, patch] at hP
          subst hP
          have HF := Lib.hid (DSt.end (k := K) _ HW1.out hS)
          clear hS hJ hL
          go_wp2_with fail
          go_ret2
          rw [← Hd.out]
          exact HF.out
    · have hE : ((j : Int) + 1 == (t.parts.length : Int)) = false := by simp; omega
      have hem : ((t.parts.map canon).drop (j + 1)).isEmpty = false := by
        rw [List.isEmpty_eq_false_iff, ← List.length_pos_iff, hmt]; omega
      rw [hem] at hd
      simp only [Bool.false_eq_true, if_false] at hd
      have hsp : ((l'.length + 1 : Nat) : Int) = (l'.length : Int) + 1 := by omega
      rw [hsp] at hd
      have hf := dl_few (canon x) (l' ++ [(ins 1 ((l'.length : Int) + 1) 0)]) k'
      have hlp := dl_lps (canon x) (l' ++ [(ins 1 ((l'.length : Int) + 1) 0)]) k'
      have hgr := (dl_lays (canon x)).le (l' ++ [(ins 1 ((l'.length : Int) + 1) 0)]) k'
      simp only [List.length_append, List.length_cons, List.length_nil] at hf hlp hgr
      obtain ⟨R, hR⟩ : ∃ R, dl (canon x) (l' ++ [(ins 1 ((l'.length : Int) + 1) 0)]) k' = R := ⟨_, rfl⟩
      rw [hR] at hd hf hlp hgr
      have HR := Lib.hid hR
      obtain ⟨L, K2⟩ := R
      simp only at hd hf hlp hgr
      have hsp2 : ((L.length + 1 : Nat) : Int) = (L.length : Int) + 1 := by omega
      rw [hsp2] at hd
      have hone2 : 1 ≤ nsizes ((t.parts.map canon).drop (j + 1)) := by
        cases hds : (t.parts.map canon).drop (j + 1) with
        | nil => rw [hds] at hem; cases hem
        | cons y ys => rw [nsizes]; have := nsize_one y; omega
      have hln : j + 1 < t.parts.length := by omega
      have hm3 : L.length + 1 ≤ maxLen := by unfold maxLen; omega
      have hm4 : (L.length + 1) * 56 ≤ 140737488355328 := by omega
      have hmj1 : js.length + 1 ≤ maxLen := by unfold maxLen; omega
      have hmj2 : (js.length + 1) * 8 ≤ 140737488355328 := by omega
      have hsX : (l'.length : Int) < (L.length : Int) + 1 := by omega
      have Wl : IntKind.i64.wrap ((l'.length : Int) + 1) = (l'.length : Int) + 1 := IntWalk.i64_in _ (by omega)
      have hm1 : l'.length + 1 ≤ maxLen := by unfold maxLen; omega
      have hm2 : (l'.length + 1) * 56 ≤ 140737488355328 := by omega
      have Hd := Lib.hid hd
      have DS := Lib.hid (hS.below (Below.drew (Below.refl _ wr)))
      have HJ := Lib.hid (hJ.below (Below.drew (Below.refl _ wr)))
      have Hjs := Lib.hid hjs
      have Hm := Lib.hid (And.intro hf (And.intro hlp (And.intro hk' (And.intro hsz' (And.intro hone (And.intro hjl (And.intro hgr (And.intro hone2 hln))))))))
      have hS9 := And.intro (DSt.box HT.out Hvl.out DS.out) (H9.out.below DS.out.low hbl)
      clear hd hS hJ hx hr hdr hjs hf hlp hk' hone hem hmt hlast hR hsp hsp2 hgr hone2 hln
      go_upto_region 26 with fail
      refine wp_region_held_drew (S := fun W' : World => Cl9 W' w.heap.size 0 t (some ⟨b, o, none⟩) cap ∧ Cl9 W' b (o + j * 9) x a' cap') hmix hS9 (fun hHeld => ?_)
      refine wpAnyH_take (i := 0) (v := ?_) rfl (by kernel_rfl) (by kernel_rfl) (by kernel_rfl) (fun _ _ _ h => h) (Or.inl ⟨by rfl, ?_⟩) (by assumption) ?_
      rotate_left
      · intro W' hSw; obtain ⟨⟨c0, c1, c2, c3, c4, c5, c6, c7, c8⟩, ⟨x0, x1, x2, x3, x4, x5, x6, x7, x8⟩⟩ := hSw; go_simp; try with_reducible rfl
      try simp only [List.getElem_toArray, List.getElem_cons_succ, List.getElem_cons_zero, Act.put, List.setIfInBounds_toArray, List.set_cons_zero, List.set_cons_succ]
      refine wpAnyH_take (i := 1) (v := ?_) rfl (by kernel_rfl) (by kernel_rfl) (by kernel_rfl) (fun _ _ _ h => h) (Or.inl ⟨by rfl, ?_⟩) (by assumption) ?_
      rotate_left
      · intro W' hSw; obtain ⟨⟨c0, c1, c2, c3, c4, c5, c6, c7, c8⟩, ⟨x0, x1, x2, x3, x4, x5, x6, x7, x8⟩⟩ := hSw; go_simp; try with_reducible rfl
      try simp only [List.getElem_toArray, List.getElem_cons_succ, List.getElem_cons_zero, Act.put, List.setIfInBounds_toArray, List.set_cons_zero, List.set_cons_succ]
      refine wpAnyH_take (i := 2) (v := ?_) rfl (by kernel_rfl) (by kernel_rfl) (by kernel_rfl) (fun _ _ _ h => h) (Or.inl ⟨by rfl, ?_⟩) (by assumption) ?_
      rotate_left
      · intro W' hSw; obtain ⟨⟨c0, c1, c2, c3, c4, c5, c6, c7, c8⟩, ⟨x0, x1, x2, x3, x4, x5, x6, x7, x8⟩⟩ := hSw; go_simp; try with_reducible rfl
      try simp only [List.getElem_toArray, List.getElem_cons_succ, List.getElem_cons_zero, Act.put, List.setIfInBounds_toArray, List.set_cons_zero, List.set_cons_succ]
      refine wpAnyH_take (i := 3) (v := ?_) rfl (by kernel_rfl) (by kernel_rfl) (by kernel_rfl) (fun _ _ _ h => h) (Or.inl ⟨by rfl, ?_⟩) (by assumption) ?_
      rotate_left
      · intro W' hSw; obtain ⟨⟨c0, c1, c2, c3, c4, c5, c6, c7, c8⟩, ⟨x0, x1, x2, x3, x4, x5, x6, x7, x8⟩⟩ := hSw; go_simp; try with_reducible rfl
      try simp only [List.getElem_toArray, List.getElem_cons_succ, List.getElem_cons_zero, Act.put, List.setIfInBounds_toArray, List.set_cons_zero, List.set_cons_succ]
      refine wpAnyH_take (i := 6) (v := ?_) rfl (by kernel_rfl) (by kernel_rfl) (by kernel_rfl) (fun _ _ _ h => h) (Or.inl ⟨by rfl, ?_⟩) (by assumption) ?_
      rotate_left
      · intro W' hSw; obtain ⟨⟨c0, c1, c2, c3, c4, c5, c6, c7, c8⟩, ⟨x0, x1, x2, x3, x4, x5, x6, x7, x8⟩⟩ := hSw; go_simp; try with_reducible rfl
      try simp only [List.getElem_toArray, List.getElem_cons_succ, List.getElem_cons_zero, Act.put, List.setIfInBounds_toArray, List.set_cons_zero, List.set_cons_succ]
      refine wpAnyH_take (i := 7) (v := ?_) rfl (by kernel_rfl) (by kernel_rfl) (by kernel_rfl) (fun _ _ _ h => h) (Or.inl ⟨by rfl, ?_⟩) (by assumption) ?_
      rotate_left
      · intro W' hSw; obtain ⟨⟨c0, c1, c2, c3, c4, c5, c6, c7, c8⟩, ⟨x0, x1, x2, x3, x4, x5, x6, x7, x8⟩⟩ := hSw; go_simp; try with_reducible rfl
      try simp only [List.getElem_toArray, List.getElem_cons_succ, List.getElem_cons_zero, Act.put, List.setIfInBounds_toArray, List.set_cons_zero, List.set_cons_succ]
      refine wpAnyH_take (i := 8) (v := ?_) rfl (by kernel_rfl) (by kernel_rfl) (by kernel_rfl) (fun _ _ _ h => h) (Or.inl ⟨by rfl, ?_⟩) (by assumption) ?_
      rotate_left
      · intro W' hSw; obtain ⟨⟨c0, c1, c2, c3, c4, c5, c6, c7, c8⟩, ⟨x0, x1, x2, x3, x4, x5, x6, x7, x8⟩⟩ := hSw; go_simp; try with_reducible rfl
      try simp only [List.getElem_toArray, List.getElem_cons_succ, List.getElem_cons_zero, Act.put, List.setIfInBounds_toArray, List.set_cons_zero, List.set_cons_succ]
      refine wpAnyH_take (i := 9) (v := ?_) rfl (by kernel_rfl) (by kernel_rfl) (by kernel_rfl) (fun _ _ _ h => h) (Or.inl ⟨by rfl, ?_⟩) (by assumption) ?_
      rotate_left
      · intro W' hSw; obtain ⟨⟨c0, c1, c2, c3, c4, c5, c6, c7, c8⟩, ⟨x0, x1, x2, x3, x4, x5, x6, x7, x8⟩⟩ := hSw; go_simp; try with_reducible rfl
      try simp only [List.getElem_toArray, List.getElem_cons_succ, List.getElem_cons_zero, Act.put, List.setIfInBounds_toArray, List.set_cons_zero, List.set_cons_succ]
      refine wpAnyH_take (i := 10) (v := ?_) rfl (by kernel_rfl) (by kernel_rfl) (by kernel_rfl) (fun _ _ _ h => h) (Or.inl ⟨by rfl, ?_⟩) (by assumption) ?_
      rotate_left
      · intro W' hSw; obtain ⟨⟨c0, c1, c2, c3, c4, c5, c6, c7, c8⟩, ⟨x0, x1, x2, x3, x4, x5, x6, x7, x8⟩⟩ := hSw; go_simp; try with_reducible rfl
      try simp only [List.getElem_toArray, List.getElem_cons_succ, List.getElem_cons_zero, Act.put, List.setIfInBounds_toArray, List.set_cons_zero, List.set_cons_succ]
      refine wpAnyH_take (i := 11) (v := ?_) rfl (by kernel_rfl) (by kernel_rfl) (by kernel_rfl) (fun _ _ _ h => h) (Or.inl ⟨by rfl, ?_⟩) (by assumption) ?_
      rotate_left
      · intro W' hSw; obtain ⟨⟨c0, c1, c2, c3, c4, c5, c6, c7, c8⟩, ⟨x0, x1, x2, x3, x4, x5, x6, x7, x8⟩⟩ := hSw; go_simp; try with_reducible rfl
      try simp only [List.getElem_toArray, List.getElem_cons_succ, List.getElem_cons_zero, Act.put, List.setIfInBounds_toArray, List.set_cons_zero, List.set_cons_succ]

      refine wpAnyH_ready (rs := [4]) (by kernel_rfl) (by simp) ?_
      refine AllReadyH.cons rfl (fun K hK => ?_) AllReadyH.nil
      go_simp
      have hn := inC_new wr.drew (ins 1 ((l'.length : Int) + 1) 0) 84 _ rfl
      have hgl : wr.drew.heap.size < (wr.drew.alloc (.cells (inC (ins 1 ((l'.length : Int) + 1) 0)).toArray 84)).heap.size := by simp
      have DS := Lib.hid (DS.out.below ((Below.refl wr.drew.heap.size wr.drew).alloc (Nat.le_refl _) (.cells (inC (ins 1 ((l'.length : Int) + 1) 0)).toArray 84)))
      have HJ := Lib.hid (HJ.out.below ((Below.refl wr.drew.heap.size wr.drew).alloc (Nat.le_refl _) (.cells (inC (ins 1 ((l'.length : Int) + 1) 0)).toArray 84)))
      rw [inC_ins] at hn hgl DS HJ
      have Hn := Lib.hid hn
      have Hgl := Lib.hid hgl
      clear hn hgl
      refine hK.out _ _ ⟨DSt.box HT.out Hvl.out DS.out, H9.out.below DS.out.low hbl⟩ (fun hHeld2 => ?_)
      clear hK K hHeld
      try simp only [List.getElem_toArray, List.getElem_cons_succ, List.getElem_cons_zero, Act.put, List.setIfInBounds_toArray, List.set_cons_zero, List.set_cons_succ]
      refine wpAnyH_ready (rs := [5]) (by kernel_rfl) (by simp) ?_
      refine AllReadyH.cons rfl (fun K hK => ?_) AllReadyH.nil
      refine step_append_keep rfl _ _ 39 rfl w0.heap.size 84 i0 (.agg #[.int .i64 0, .int .u64 0, .int .u64 0, .int .u64 0, .int .u64 0, .int .i64 0, .int .i64 0]) 7 56 Try.underlying39 hi hz0 hz1 hz2 rfl (by decide) (.slice va5 l'.length vc5) l'.length (inF l') rfl DS.out.row ⟨wr.drew.heap.size, 0, none⟩ 1 1 (inC (ins 1 ((l'.length : Int) + 1) 0)) rfl rfl Hn.out (inC_one _) hm1 hm2 DS.out.low.size ?_
      intro v6 w6 hown6 hgr6 hat6
      have hro6 : DRow w0 w6 (l' ++ [(ins 1 ((l'.length : Int) + 1) 0)]) v6 := by unfold DRow; rw [List.length_append, inF_snoc]; exact hown6
      have DS := Lib.hid (DS.out.step hro6 hgr6 (hat6.imp id fun h => ⟨_, h.1, Nat.le_refl _⟩))
      have HJ := Lib.hid (HJ.out.list hgr6 (hat6.imp id fun h => ⟨_, h.1, Nat.le_refl _⟩))
      obtain ⟨a6, c6, rfl⟩ := co_form hown6
      refine hK.out _ _ ⟨DSt.box HT.out Hvl.out DS.out, H9.out.below DS.out.low hbl⟩ (fun hHeld3 => ?_)
      clear hK K hHeld2 hro6 hgr6 hat6 hown6
      try simp only [List.getElem_toArray, List.getElem_cons_succ, List.getElem_cons_zero, Act.put, List.setIfInBounds_toArray, List.set_cons_zero, List.set_cons_succ]
      refine wpAnyH_ready (rs := [12]) (by kernel_rfl) (by simp) ?_
      refine AllReadyH.cons rfl (fun K hK => ?_) AllReadyH.nil
      have hC := ih x a' cap' w0 _ _ k' _ Hr.out DS.out.low DS.out.row (by have := Hm.out; simp only [List.length_append, List.length_cons, List.length_nil]; omega) (by have := Hm.out; simp only [List.length_append, List.length_cons, List.length_nil]; omega) hcx
      rw [HR.out] at hC
      unfold tV at hC
      go_simp
      go_wp2_with (go_at_call 26; go_loud (refine hC.mono ?_; rintro e w7 hA; obtain ⟨v2, rfl, g2, g3, g4⟩ := hA; replace g2 : DRow w0 w7 L v2 := g2; have HS2 := Lib.hid (DS.out.step g2 g3 g4); have HJ2 := Lib.hid (HJ.out.list g3 g4); obtain ⟨va2, vc2, rfl⟩ := co_form g2; clear g2 g3 g4))
      refine hK.out _ _ ⟨DSt.box HT.out Hvl.out HS2.out, H9.out.below HS2.out.low hbl⟩ (fun hHeld9 => ?_)
      clear hK K hC
      try simp only [List.getElem_toArray, List.getElem_cons_succ, List.getElem_cons_zero, Act.put, List.setIfInBounds_toArray, List.set_cons_zero, List.set_cons_succ]
      refine wpAnyH_take (i := 13) (v := ?_) rfl (by kernel_rfl) (by kernel_rfl) (by kernel_rfl) (fun _ _ _ h => h) (Or.inl ⟨by rfl, ?_⟩) (by assumption) ?_
      rotate_left
      · intro W' hSw; obtain ⟨⟨c0, c1, c2, c3, c4, c5, c6, c7, c8⟩, ⟨x0, x1, x2, x3, x4, x5, x6, x7, x8⟩⟩ := hSw; go_simp; try with_reducible rfl
      try simp only [List.getElem_toArray, List.getElem_cons_succ, List.getElem_cons_zero, Act.put, List.setIfInBounds_toArray, List.set_cons_zero, List.set_cons_succ]
      refine wpAnyH_take (i := 14) (v := ?_) rfl (by kernel_rfl) (by kernel_rfl) (by kernel_rfl) (fun _ _ _ h => h) (Or.inl ⟨by rfl, ?_⟩) (by assumption) ?_
      rotate_left
      · intro W' hSw; obtain ⟨⟨c0, c1, c2, c3, c4, c5, c6, c7, c8⟩, ⟨x0, x1, x2, x3, x4, x5, x6, x7, x8⟩⟩ := hSw; go_simp; try with_reducible rfl
      try simp only [List.getElem_toArray, List.getElem_cons_succ, List.getElem_cons_zero, Act.put, List.setIfInBounds_toArray, List.set_cons_zero, List.set_cons_succ]
      refine wpAnyH_take (i := 15) (v := ?_) rfl (by kernel_rfl) (by kernel_rfl) (by kernel_rfl) (fun _ _ _ h => h) (Or.inl ⟨by rfl, ?_⟩) (by assumption) ?_
      rotate_left
      · intro W' hSw; obtain ⟨⟨c0, c1, c2, c3, c4, c5, c6, c7, c8⟩, ⟨x0, x1, x2, x3, x4, x5, x6, x7, x8⟩⟩ := hSw; go_simp; try with_reducible rfl
      try simp only [List.getElem_toArray, List.getElem_cons_succ, List.getElem_cons_zero, Act.put, List.setIfInBounds_toArray, List.set_cons_zero, List.set_cons_succ]
      refine wpAnyH_take (i := 16) (v := ?_) rfl (by kernel_rfl) (by kernel_rfl) (by kernel_rfl) (fun _ _ _ h => h) (Or.inl ⟨by rfl, ?_⟩) (by assumption) ?_
      rotate_left
      · intro W' hSw; obtain ⟨⟨c0, c1, c2, c3, c4, c5, c6, c7, c8⟩, ⟨x0, x1, x2, x3, x4, x5, x6, x7, x8⟩⟩ := hSw; go_simp; try with_reducible rfl
      try simp only [List.getElem_toArray, List.getElem_cons_succ, List.getElem_cons_zero, Act.put, List.setIfInBounds_toArray, List.set_cons_zero, List.set_cons_succ]
      refine wpAnyH_take (i := 17) (v := ?_) rfl (by kernel_rfl) (by kernel_rfl) (by kernel_rfl) (fun _ _ _ h => h) (Or.inl ⟨by rfl, ?_⟩) (by assumption) ?_
      rotate_left
      · intro W' hSw; obtain ⟨⟨c0, c1, c2, c3, c4, c5, c6, c7, c8⟩, ⟨x0, x1, x2, x3, x4, x5, x6, x7, x8⟩⟩ := hSw; go_simp; try with_reducible rfl
      try simp only [List.getElem_toArray, List.getElem_cons_succ, List.getElem_cons_zero, Act.put, List.setIfInBounds_toArray, List.set_cons_zero, List.set_cons_succ]

      refine wpAnyH_done (by kernel_rfl) ?_ _
      have hAj : Below w7.heap.size w7 (w7.alloc (.cells #[.int .i64 (L.length : Int)] 3)) := (Below.refl _ w7).alloc (Nat.le_refl _) _
      go_upto_region 28 with (at_builtin; refine wpList_append_own_at _ rfl _ _ 92 rfl w0.heap.size 3 i1 (.int .i64 0) 1 8 Try.underlying92 hi1 hy0 hy1 hy2 rfl (by decide) (.slice ja js.length jc) js.length (jvOf js) rfl (HJ2.out.below hAj).row ⟨w7.heap.size, 0, none⟩ 1 1 [.int .i64 (L.length : Int)] rfl rfl (fun n u hu => by cases n with | zero => (injection hu with hu; subst hu; exact (Boxed.new w7 3 (.int .i64 (L.length : Int))).cell) | succ n => cases hu) (fun u hu => by obtain rfl := List.mem_singleton.1 hu; rfl) hmj1 hmj2 (HS2.out.below hAj).low.size ?_; intro v8 w8 hown8 hgr8 _ hat8)
      obtain ⟨hS3, hJ3⟩ := (HS2.out.below hAj).jrow (js' := js ++ [L.length]) (HJ2.out.below hAj) (by rw [jvOf_snoc, List.length_append]; exact hown8) hgr8 (hat8.imp id fun h => ⟨_, h, Nat.le_refl _⟩)
      obtain ⟨ja3, jc3, rfl⟩ := co_form hown8
      have HS3 := Lib.hid hS3
      have HJ3 := Lib.hid hJ3
      clear hS3 hJ3 hown8 hgr8 hat8 hAj
      have hAi : Below w8.heap.size w8 (w8.alloc (.cells (inC (ins 2 0 0)).toArray 84)) := (Below.refl _ w8).alloc (Nat.le_refl _) _
      go_upto_region 29 with (at_builtin; refine wpList_append_own_at _ rfl _ _ 39 rfl w0.heap.size 84 i0 (.agg #[.int .i64 0, .int .u64 0, .int .u64 0, .int .u64 0, .int .u64 0, .int .i64 0, .int .i64 0]) 7 56 Try.underlying39 hi hz0 hz1 hz2 rfl (by decide) (.slice va2 L.length vc2) L.length (inF L) rfl (HS3.out.below hAi).row ⟨w8.heap.size, 0, none⟩ 1 1 (inC (ins 2 0 0)) rfl rfl (by rw [← inC_ins]; exact inC_new w8 (ins 2 0 0) _ _ rfl) (inC_one _) hm3 hm4 (HS3.out.below hAi).low.size ?_; intro v9 w9 hown9 hgr9 _ hat9)
      obtain ⟨d1, d2, d3⟩ := drow_more hown9 hgr9 hat9
      have HS4 := Lib.hid (HS3.out.step d1 d2 d3)
      have HJ4 := Lib.hid (HJ3.out.list d2 d3)
      obtain ⟨va9, vc9, rfl⟩ := co_form hown9
      clear d1 d2 d3 hown9 hgr9 hat9 hAi
      have hlen : (L ++ [ins 2 0 0]).length = L.length + 1 := by simp
      have hS' : DSt w0 W1 (.slice va l.length vc) (L ++ [ins 2 0 0]) (.slice va9 (L ++ [ins 2 0 0]).length vc9) w9 := by rw [hlen]; exact HS4.out
      obtain ⟨hlc, hcm, p0, rfl, hp0, hcell, hfz⟩ := hS'.inst (by omega)
      obtain ⟨z1, z2, z3, z4, z5, z6, z7, z8, z9⟩ := Hm.out
      have hfy := hfz (l'.length * 7 + 6)
      have hbd : l'.length < (L ++ [ins 2 0 0]).length := by omega
      have hcy : w9.cell? ⟨p0, l'.length * 7 + 6, none⟩ = some (.int .i64 ((L ++ [ins 2 0 0])[l'.length]'hbd).y) := (hcell l'.length hbd 6 (by omega)).trans rfl
      obtain ⟨hS5, hg5⟩ := hS'.setY l'.length (by omega) ((L.length : Int) + 1)
      rw [hlen] at hS5 hlc
      have HS5 := Lib.hid hS5
      have HJ5 := Lib.hid (HJ4.out.list hg5 (.inl rfl))
      have hks : K2 ≤ L.length + 1 := by omega
      have hxs : ∀ x ∈ js ++ [L.length], x < L.length + 1 := fun x hx => by
        rcases List.mem_append.1 hx with hx | hx
        · have := Hjs.out x hx; omega
        · rw [List.mem_singleton.1 hx]; omega
      have hsz5 : max (L.length + 1) 3000 + 6 * nsizes ((t.parts.map canon).drop (j + 1)) ≤ 100000 := by omega
      have hjl5 : js.length + 1 ≤ L.length + 1 := by omega
      have Hfin := Lib.hid (And.intro z9 (And.intro hks (And.intro hxs (And.intro hsz5 hjl5))))
      clear hS' hS5 hg5 hcell hfz hlen z1 z2 z3 z4 z5 z6 z7 z8 z9 hks hxs hsz5 hjl5
      go_wp2_with fail
      go_roundw
      case rel =>
        obtain ⟨f1, f2, f3, f4, f5⟩ := Hfin.out
        refine ⟨j + 1, _, K2, js ++ [L.length], f1, by go_num, rfl, HS5.out, HJ5.out, Hd.out, ?_, ?_, ?_, ?_⟩
        · rw [upd_len, List.length_append]; exact f2
        · rw [upd_len, List.length_append]; exact f4
        · rw [upd_len, List.length_append]; exact f3
        · rw [upd_len, List.length_append, List.length_append]; exact f5
      case measure => simp [intOf]; omega
end Go.Proofs.Ytihfenkphhnbcaa
namespace Go.Proofs.Ytihfenkphhnbcaa
open Go Go.RowKit
theorem in2_ins (a b c d e f : Int) : (inC (ins a b c) ++ inC (ins d e f)).toArray = #[.int .i64 a, .int .u64 0, .int .u64 0, .int .u64 0, .int .u64 0, .int .i64 b, .int .i64 c, .int .i64 d, .int .u64 0, .int .u64 0, .int .u64 0, .int .u64 0, .int .i64 e, .int .i64 f] := by
  unfold inC ins
  simp only [show ow (0 : OSet) 0 = 0 from ow_zero 0, show ow (0 : OSet) 1 = 0 from ow_zero 1, show ow (0 : OSet) 2 = 0 from ow_zero 2, show ow (0 : OSet) 3 = 0 from ow_zero 3]
  rfl
theorem in2_new (w : World) (i j : Inn) (T : TypeId) : ∀ n u, (inC i ++ inC j)[n]? = some u → (w.alloc (.cells (inC i ++ inC j).toArray T)).cell? ((⟨w.heap.size, 0, none⟩ : Addr).add n) = some u := by
  have hb := Blk.new w (inC i ++ inC j).toArray T w.heap.size rfl
  intro n u hu
  rw [Go.WideShapes.add_plain, Nat.zero_add, hb.cell n, ← Array.getElem?_toList]
  exact hu
theorem in2_one (i j : Inn) : ∀ u ∈ inC i ++ inC j, u.oneCell' = true := fun u hu => by
  rcases List.mem_append.1 hu with h | h
  · exact inC_one i u h
  · exact inC_one j u h
theorem drow_more2 {w0 w w6 : World} {l : List Inn} {i j : Inn} {v v6 : Value} {o : Obj} (hown : w6.ownsRow w0.heap.size 84 7 v6 (l.length + 2) (inF l ++ (inC i ++ inC j))) (hg : (w.alloc o).grownBy w6 v.ownBlock) (hat : v6.ownBlock = v.ownBlock ∨ v6.ownBlock = some (w.alloc o).heap.size) :
    DRow w0 w6 (l ++ [i, j]) v6 ∧ w.grownBy w6 v.ownBlock ∧ (v6.ownBlock = v.ownBlock ∨ ∃ g, v6.ownBlock = some g ∧ w.heap.size ≤ g) := by
  refine ⟨?_, (World.grownBy_alloc w o v.ownBlock).trans hg, hat.imp id fun h => ⟨_, h, by simp⟩⟩
  have e : inF (l ++ [i, j]) = inF l ++ (inC i ++ inC j) := by rw [show l ++ [i, j] = (l ++ [i]) ++ [j] by simp, inF_snoc, inF_snoc, List.append_assoc]
  have e2 : (l ++ [i, j]).length = l.length + 2 := by simp
  unfold DRow
  rw [e, e2]
  exact hown
end Go.Proofs.Ytihfenkphhnbcaa
