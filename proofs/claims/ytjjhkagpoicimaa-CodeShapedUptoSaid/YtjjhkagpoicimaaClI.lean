/- The statement's own count of a node's instructions (CodeSizes). -/
import Derived.Test.YtjjhkagpoicimaaClA
import Derived.Test.YtjjhkagpoicimaaTrWk
namespace Go.Proofs.Ytjjhkagpoicimaa
open Go Go.RowKit

mutual
theorem norep_size : ∀ d : Nd, noRep d = true → csz d + 2 ≤ 3 * nsize d
  | .empty, _ => by simp [csz, nsize]
  | .one _, _ => by simp [csz, nsize]
  | .cat l, h => by rw [noRep] at h; have := noreps_size l h; rw [csz, nsize]; omega
  | .alt l, h => by rw [noRep] at h; have := noreps_size l h; rw [csz, nsize]; omega
  | .rep _ _ _, h => by simp [noRep] at h
  | .group _ d, h => by rw [noRep] at h; have := norep_size d h; rw [csz, nsize]; omega
  | .back _, _ => by simp [csz, nsize]
  | .start, _ => by simp [csz, nsize]
  | .fin, _ => by simp [csz, nsize]
theorem noreps_size : ∀ l : List Nd, noReps l = true → cszs l + 2 * l.length ≤ 3 * nsizes l
  | [], _ => by simp [cszs]
  | d :: ds, h => by
    rw [noReps, Bool.and_eq_true] at h
    have h1 := norep_size d h.1
    have h2 := noreps_size ds h.2
    rw [cszs, nsizes, List.length_cons]
    omega
end
theorem noreps_app : ∀ a b : List Nd, noReps (a ++ b) = (noReps a && noReps b)
  | [], b => by simp [noReps]
  | d :: a, b => by rw [List.cons_append, noReps, noReps, noreps_app a b, Bool.and_assoc]
theorem cszs_app : ∀ a b : List Nd, cszs (a ++ b) = cszs a + cszs b
  | [], b => by simp [cszs]
  | d :: a, b => by rw [List.cons_append, cszs, cszs, cszs_app a b, Nat.add_assoc]
theorem noreps_take (l : List Nd) (i : Nat) (h : i < l.length) : noReps (l.take (i + 1)) = (noReps (l.take i) && noRep l[i]) := by
  rw [List.take_succ_eq_append_getElem h, noreps_app]
  simp [noReps]
theorem cszs_take (l : List Nd) (i : Nat) (h : i < l.length) : cszs (l.take (i + 1)) = cszs (l.take i) + csz l[i] := by
  rw [List.take_succ_eq_append_getElem h, cszs_app]
  simp [cszs]
theorem noreps_no (l : List Nd) (i : Nat) (h : noReps (l.take i) = false) : noReps l = false := by
  have := noreps_app (l.take i) (l.drop i)
  rw [List.take_append_drop, h] at this
  simpa using this
theorem inst_ret {x y : Value} {R1 : Int} {R2 : Bool} (hx : x = .int .i64 R1) (hy : y = .bool R2) : Ending.returned (.tuple #[x, y]) = .returned (.tuple #[.int .i64 R1, .bool R2]) := by rw [hx, hy]
/-- What a node has of its own. -/
def ibase (t : Tr) : Int := if t.kind = 1 ∨ t.kind = 7 ∨ t.kind = 8 ∨ t.kind = 6 then 1 else if t.kind = 5 then 2 else if t.kind = 3 then 2 * ((t.parts.length : Int) - 1) else 0
theorem canon_base (t : Tr) (h4 : t.kind ≠ 4) (hc : cok (canon t) = true) : noRep (canon t) = noReps ((tkids t).map canon) ∧ (csz (canon t) : Int) = ibase t + cszs ((tkids t).map canon) ∧ (∀ x ∈ tkids t, cok (canon x) = true) := by
  have hcoks : ∀ l : List Tr, coks (l.map canon) = true → ∀ x ∈ l, cok (canon x) = true := by
    intro l
    induction l with
    | nil => intro _ x hx; cases hx
    | cons y l ih =>
      intro h x hx
      rw [List.map_cons, coks, Bool.and_eq_true] at h
      rcases List.mem_cons.1 hx with rfl | hx
      · exact h.1
      · exact ih h.2 x hx
  have hk0 : t.kind ≠ 2 → t.kind ≠ 3 → t.kind ≠ 5 → tkids t = [] := fun h2 h3 h5 => by
    unfold tkids
    rw [if_neg (fun h => h.elim h2 h3), if_neg (fun h => h.elim h4 h5)]
  by_cases h1 : t.kind = 1
  · rw [hk0 (by omega) (by omega) (by omega), canon_1 t h1]
    refine ⟨rfl, ?_, by simp⟩
    unfold ibase; rw [if_pos (.inl h1)]; rfl
  by_cases h2 : t.kind = 2
  · rw [canon_2 t h2] at hc ⊢
    rw [cok] at hc
    refine ⟨by rw [noRep], ?_, hcoks _ hc⟩
    unfold ibase; rw [if_neg (by omega), if_neg (by omega), if_neg (by omega), csz]; omega
  by_cases h3 : t.kind = 3
  · rw [canon_3 t h3] at hc ⊢
    rw [cok, Bool.and_eq_true, decide_eq_true_eq, List.length_map] at hc
    refine ⟨by rw [noRep], ?_, hcoks _ hc.2⟩
    have hp : tkids t = t.parts := by unfold tkids; rw [if_pos (.inr h3)]
    have h5 := hc.1
    unfold ibase; rw [if_neg (by omega), if_neg (by omega), if_pos h3, csz, List.length_map, hp]
    rw [hp] at h5
    omega
  by_cases h5 : t.kind = 5
  · obtain ⟨e1, e2⟩ := canon_5 t h5
    rw [e1] at hc ⊢
    rw [e2]
    simp only [cok, Bool.and_eq_true] at hc
    refine ⟨by simp [noRep, noReps], ?_, fun x hx => by obtain rfl := List.mem_singleton.1 hx; exact hc.2⟩
    unfold ibase; rw [if_neg (by omega), if_pos h5, csz]; simp [cszs]; omega
  rw [hk0 h2 h3 h5]
  by_cases h6 : t.kind = 6
  · rw [canon_6 t h6]
    refine ⟨rfl, ?_, by simp⟩
    unfold ibase; rw [if_pos (.inr (.inr (.inr h6)))]; rfl
  by_cases h7 : t.kind = 7
  · rw [canon_7 t h7]
    refine ⟨rfl, ?_, by simp⟩
    unfold ibase; rw [if_pos (.inr (.inl h7))]; rfl
  by_cases h8 : t.kind = 8
  · rw [canon_8 t h8]
    refine ⟨rfl, ?_, by simp⟩
    unfold ibase; rw [if_pos (.inr (.inr (.inl h8)))]; rfl
  rw [canon_0 t h1 h2 h3 h4 h5 h6 h7 h8]
  refine ⟨rfl, ?_, by simp⟩
  unfold ibase; rw [if_neg (by omega), if_neg h5, if_neg h3]; rfl
theorem ibase_small (t : Tr) (h : t.parts.length ≤ 4000000) : 0 ≤ ibase t + 2 ∧ ibase t ≤ 8000000 := by
  unfold ibase
  split
  · omega
  · split
    · omega
    · split <;> omega
set_option linter.unusedVariables false in
set_option linter.unusedSimpArgs false in
set_option maxRecDepth 100000 in
set_option maxHeartbeats 4000000 in
theorem linst_any : ∀ (N : Nat) (t : Tr) (a : Option Addr) (cap : Nat) (w : World), TrD N w t a cap → nsize (canon t) ≤ 1000000 → cok (canon t) = true →
    Calls Try.prog 17 #[tV t a cap] w fun e w' => e = .returned (.tuple #[.int .i64 (if noRep (canon t) = true then (csz (canon t) : Int) else 0), .bool (noRep (canon t))]) ∧ Below w.heap.size w w' := by
  intro N
  induction N with
  | zero => intro t a cap w h; exact (trd_zero h).elim
  | succ N ih =>
    intro t a cap w h hb hc
    have hT := (Blk.new w (tC t a cap) 27 _ rfl)
    have hW := (Below.refl w.heap.size w).alloc (Nat.le_refl _) (.cells (tC t a cap) 27)
    have q0 := (hT.cell 0).trans rfl
    have q5 := (hT.cell 5).trans rfl
    by_cases h4 : t.kind = 4
    · have hn : noRep (canon t) = false := by rw [(canon_4 t h4).1, noRep]
      rw [hn]
      have e1 : (t.kind == 1) = false := by simp [h4]
      have e7 : (t.kind == 7) = false := by simp [h4]
      have e8 : (t.kind == 8) = false := by simp [h4]
      have e6 : (t.kind == 6) = false := by simp [h4]
      have e5 : (t.kind == 5) = false := by simp [h4]
      have e3 : (t.kind == 3) = false := by simp [h4]
      have e4 : (t.kind == 4) = true := by simp [h4]
      unfold tV
      clear h ih hT h4 hc hn
      go_enter Try.func17, Try.ntmps17
      go_wp2_with fail
      go_ret2
      exact ⟨rfl, hW⟩
    · obtain ⟨hn1, hn2, hn3⟩ := canon_base t h4 hc
      have hpl : t.parts.length ≤ 4000000 ∨ t.kind ≠ 3 := by
        by_cases h3 : t.kind = 3
        · refine .inl ?_
          rw [canon_3 t h3, nsize] at hb
          have h5 := nsizes_length ((tkids t).map canon)
          have hp : tkids t = t.parts := by unfold tkids; rw [if_pos (.inr h3)]
          rw [List.length_map, hp] at h5
          rw [hp] at hb
          omega
        · exact .inr h3
      have hns : nsizes ((tkids t).map canon) ≤ 1000000 := by
        have h5 := nsize_kids (canon t)
        rw [canon_kids] at h5
        omega
      have hK := kids_any N t a cap _ (h.below hW)
      generalize tkids t = l at hK hn1 hn2 hn3 hns
      obtain ⟨D, hD⟩ : ∃ D, canon t = D := ⟨_, rfl⟩
      rw [hD] at hn1 hn2 ⊢
      obtain ⟨R1, R2, hR1, hR2, hRR⟩ : ∃ R1 R2, (if noRep D = true then (csz D : Int) else 0) = R1 ∧ noRep D = R2 ∧ (noRep D = false → R1 = 0 ∧ R2 = false) ∧ (noRep D = true → R1 = csz D ∧ R2 = true) :=
        ⟨_, _, rfl, rfl, fun h => ⟨by rw [h]; rfl, h⟩, fun h => ⟨by rw [h]; rfl, h⟩⟩
      rw [hR1, hR2]
      have HRR := Lib.hid hRR
      clear hR1 hR2 hRR
      obtain ⟨IB, hIB⟩ : ∃ IB, ibase t = IB := ⟨_, rfl⟩
      rw [hIB] at hn2
      have hib : -2 ≤ IB ∧ IB ≤ 8000000 := by
        subst hIB
        rcases hpl with hpl | h3
        · have := ibase_small t hpl; omega
        · unfold ibase
          split
          · omega
          · split
            · omega
            · first | (rw [if_neg h3]; omega) | omega
      have Hn1 := Lib.hid hn1
      have Hn2 := Lib.hid hn2
      have Hn3 := Lib.hid hn3
      have Hns := Lib.hid hns
      have HIB := Lib.hid hIB
      have hT0 := hT
      have HT := Lib.hid hT
      have h3l : t.kind = 3 → ∃ P : Int, IntKind.i64.wrap ((t.parts.length : Int) - 1) = P ∧ IntKind.i64.wrap (2 * P) = IB := fun h3 => by
        have hpl : t.parts.length ≤ 4000000 := hpl.resolve_right (fun h => h h3)
        refine ⟨(t.parts.length : Int) - 1, IntWalk.i64_in _ (by omega), ?_⟩
        rw [IntWalk.i64_in _ (by omega), ← hIB]
        unfold ibase
        rw [if_neg (by omega), if_neg (by omega), if_pos h3]
      clear hn1 hn2 hn3 hns hb hc h hD hT hT0 hpl
      have H3l := Lib.hid h3l
      clear h3l
      unfold tV at hK ⊢
      by_cases hk1 : t.kind = 1
      · have e1 : (t.kind == 1) = true := by simp [hk1]
        have e7 : (t.kind == 7) = false := by simp [hk1]
        have e8 : (t.kind == 8) = false := by simp [hk1]
        have e6 : (t.kind == 6) = false := by simp [hk1]
        have e5 : (t.kind == 5) = false := by simp [hk1]
        have e3 : (t.kind == 3) = false := by simp [hk1]
        have e4 : (t.kind == 4) = false := by simp [h4]
        have hI : IB = 1 := by rw [← HIB.out]; unfold ibase; rw [if_pos (.inl hk1)]
        have HI := Lib.hid hI
        clear hI hk1 h4
        go_enter Try.func17, Try.ntmps17
        go_wp2_with fail
        refine hK.mono ?_
        clear hK
        rintro e w1 ⟨a1, cap1, rfl, hR, b1⟩
        replace hW := hW.trans (b1.mono hW.size)
        clear b1 q0 q5
        have hl1 := hR.1
        have hl2 := hR.2.1
        unfold maxLen at hl2
        have HR := Lib.hid hR.2.2
        clear hR
        go_wp2_with fail
        go_loopw [4, 30] (fun s i wr => ∃ k : Nat, k ≤ l.length ∧ i = .int .i64 k ∧ s = .int .i64 (IB + (cszs ((l.map canon).take k) : Int)) ∧ noReps ((l.map canon).take k) = true ∧ Below w1.heap.size w1 wr) (fun _ i _ => l.length - (intOf i).toNat)
        case atStart => exact ⟨0, by omega, rfl, (by rw [HI.out]; rfl), rfl, Below.refl _ _⟩
        case round =>
          obtain ⟨k, hk, rfl, rfl, hnr, hV⟩ := hrel
          have Hnr := Lib.hid hnr
          by_cases hlt : k < l.length
          · obtain ⟨b, o, rfl, hbl, hx⟩ := HR.out (by omega)
            obtain ⟨a', cap', h9, hr⟩ := hx k hlt
            replace h9 := h9.below hV hbl
            replace hr := hr.below hV
            have hlm : k < (l.map canon).length := by simpa using hlt
            have hsn := cszs_take (l.map canon) k hlm
            have hrn := noreps_take (l.map canon) k hlm
            have hzn := nsizes_take (l.map canon) k hlm
            have hzl := nsizes_le (l.map canon) (k + 1)
            have hz := Hns.out
            have hsz := noreps_size _ hnr
            rw [hnr, Bool.true_and, List.getElem_map] at hrn
            rw [List.getElem_map] at hsn hzn
            have hcx := Hn3.out _ (List.getElem_mem hlt)
            obtain ⟨c0, c1, c2, c3, c4, c5, c6, c7, c8⟩ := h9
            clear hx hnr
            generalize l[k] = x at *
            have hC := ih x a' cap'
            have hx1 : nsize (canon x) ≤ 1000000 := by omega
            cases hrx : noRep (canon x)
            · rw [hrx] at hrn
              have hfalse : noReps (l.map canon) = false := noreps_no _ _ hrn
              have hDn : noRep D = false := Hn1.out.trans hfalse
              have HDn := Lib.hid hDn
              clear hsn hrn hzn hzl hz hsz hfalse hDn
              go_wp2_with fail
              refine (hC _ (hr.below ((Below.refl _ _).alloc (Nat.le_refl _) _)) hx1 hcx).mono ?_
              rintro e w2 ⟨he, b2⟩
              rw [hrx] at he
              subst he
              have hV2 := hV.trans ((((Below.refl wr.heap.size wr).alloc (Nat.le_refl _) _).trans (b2.mono (by simp))).mono hV.size)
              have hW2 := Lib.hid (hW.trans (hV2.mono hW.size))
              clear b2 hV hV2 hr c0 c1 c2 c3 c4 c5 c6 c7 c8
              go_wp2_with fail
              go_ret2
              exact ⟨inst_ret (by rw [(HRR.out.1 HDn.out).1]; rfl) (by rw [(HRR.out.1 HDn.out).2]; rfl), hW2.out⟩
            · rw [hrx] at hrn
              have hcx2 := norep_size _ hrx
              have Wn : IntKind.i64.wrap (IB + (cszs ((l.map canon).take k) : Int) + (csz (canon x) : Int)) = IB + (cszs ((l.map canon).take (k + 1)) : Int) := by
                rw [IntWalk.i64_in _ (by omega)]; omega
              have Hrn := Lib.hid hrn
              clear hsn hrn hzn hzl hz hsz hcx2
              go_wp2_with fail
              refine (hC _ (hr.below ((Below.refl _ _).alloc (Nat.le_refl _) _)) hx1 hcx).mono ?_
              rintro e w2 ⟨he, b2⟩
              rw [hrx] at he
              subst he
              have hV2 := hV.trans ((((Below.refl wr.heap.size wr).alloc (Nat.le_refl _) _).trans (b2.mono (by simp))).mono hV.size)
              clear b2 hV hr c0 c1 c2 c3 c4 c5 c6 c7 c8 hC hx1 hcx
              go_wp2_with fail
              go_roundw
              case rel => exact ⟨k + 1, by omega, by go_num, rfl, Hrn.out, hV2⟩
              case measure => simp [intOf]; omega
          · obtain rfl : k = l.length := by omega
            rw [List.take_of_length_le (by simp)] at hnr ⊢
            have hDn := Hn1.out.trans hnr
            have HDn := Lib.hid hDn
            have Hfin := Lib.hid (hW.trans (hV.mono hW.size))
            clear hnr hDn hV
            go_wp2_with fail
            go_ret2
            exact ⟨inst_ret (by rw [(HRR.out.2 HDn.out).1, Hn2.out]; rfl) (by rw [(HRR.out.2 HDn.out).2]; rfl), Hfin.out⟩
      have hn1 := hk1
      clear hk1
      by_cases hk7 : t.kind = 7
      · have e1 : (t.kind == 1) = false := by simp [hk7]
        have e7 : (t.kind == 7) = true := by simp [hk7]
        have e8 : (t.kind == 8) = false := by simp [hk7]
        have e6 : (t.kind == 6) = false := by simp [hk7]
        have e5 : (t.kind == 5) = false := by simp [hk7]
        have e3 : (t.kind == 3) = false := by simp [hk7]
        have e4 : (t.kind == 4) = false := by simp [h4]
        have hI : IB = 1 := by rw [← HIB.out]; unfold ibase; rw [if_pos (.inr (.inl hk7))]
        have HI := Lib.hid hI
        clear hI hk7 h4
        go_enter Try.func17, Try.ntmps17
        go_wp2_with fail
        refine hK.mono ?_
        clear hK
        rintro e w1 ⟨a1, cap1, rfl, hR, b1⟩
        replace hW := hW.trans (b1.mono hW.size)
        clear b1 q0 q5
        have hl1 := hR.1
        have hl2 := hR.2.1
        unfold maxLen at hl2
        have HR := Lib.hid hR.2.2
        clear hR
        go_wp2_with fail
        go_loopw [4, 30] (fun s i wr => ∃ k : Nat, k ≤ l.length ∧ i = .int .i64 k ∧ s = .int .i64 (IB + (cszs ((l.map canon).take k) : Int)) ∧ noReps ((l.map canon).take k) = true ∧ Below w1.heap.size w1 wr) (fun _ i _ => l.length - (intOf i).toNat)
        case atStart => exact ⟨0, by omega, rfl, (by rw [HI.out]; rfl), rfl, Below.refl _ _⟩
        case round =>
          obtain ⟨k, hk, rfl, rfl, hnr, hV⟩ := hrel
          have Hnr := Lib.hid hnr
          by_cases hlt : k < l.length
          · obtain ⟨b, o, rfl, hbl, hx⟩ := HR.out (by omega)
            obtain ⟨a', cap', h9, hr⟩ := hx k hlt
            replace h9 := h9.below hV hbl
            replace hr := hr.below hV
            have hlm : k < (l.map canon).length := by simpa using hlt
            have hsn := cszs_take (l.map canon) k hlm
            have hrn := noreps_take (l.map canon) k hlm
            have hzn := nsizes_take (l.map canon) k hlm
            have hzl := nsizes_le (l.map canon) (k + 1)
            have hz := Hns.out
            have hsz := noreps_size _ hnr
            rw [hnr, Bool.true_and, List.getElem_map] at hrn
            rw [List.getElem_map] at hsn hzn
            have hcx := Hn3.out _ (List.getElem_mem hlt)
            obtain ⟨c0, c1, c2, c3, c4, c5, c6, c7, c8⟩ := h9
            clear hx hnr
            generalize l[k] = x at *
            have hC := ih x a' cap'
            have hx1 : nsize (canon x) ≤ 1000000 := by omega
            cases hrx : noRep (canon x)
            · rw [hrx] at hrn
              have hfalse : noReps (l.map canon) = false := noreps_no _ _ hrn
              have hDn : noRep D = false := Hn1.out.trans hfalse
              have HDn := Lib.hid hDn
              clear hsn hrn hzn hzl hz hsz hfalse hDn
              go_wp2_with fail
              refine (hC _ (hr.below ((Below.refl _ _).alloc (Nat.le_refl _) _)) hx1 hcx).mono ?_
              rintro e w2 ⟨he, b2⟩
              rw [hrx] at he
              subst he
              have hV2 := hV.trans ((((Below.refl wr.heap.size wr).alloc (Nat.le_refl _) _).trans (b2.mono (by simp))).mono hV.size)
              have hW2 := Lib.hid (hW.trans (hV2.mono hW.size))
              clear b2 hV hV2 hr c0 c1 c2 c3 c4 c5 c6 c7 c8
              go_wp2_with fail
              go_ret2
              exact ⟨inst_ret (by rw [(HRR.out.1 HDn.out).1]; rfl) (by rw [(HRR.out.1 HDn.out).2]; rfl), hW2.out⟩
            · rw [hrx] at hrn
              have hcx2 := norep_size _ hrx
              have Wn : IntKind.i64.wrap (IB + (cszs ((l.map canon).take k) : Int) + (csz (canon x) : Int)) = IB + (cszs ((l.map canon).take (k + 1)) : Int) := by
                rw [IntWalk.i64_in _ (by omega)]; omega
              have Hrn := Lib.hid hrn
              clear hsn hrn hzn hzl hz hsz hcx2
              go_wp2_with fail
              refine (hC _ (hr.below ((Below.refl _ _).alloc (Nat.le_refl _) _)) hx1 hcx).mono ?_
              rintro e w2 ⟨he, b2⟩
              rw [hrx] at he
              subst he
              have hV2 := hV.trans ((((Below.refl wr.heap.size wr).alloc (Nat.le_refl _) _).trans (b2.mono (by simp))).mono hV.size)
              clear b2 hV hr c0 c1 c2 c3 c4 c5 c6 c7 c8 hC hx1 hcx
              go_wp2_with fail
              go_roundw
              case rel => exact ⟨k + 1, by omega, by go_num, rfl, Hrn.out, hV2⟩
              case measure => simp [intOf]; omega
          · obtain rfl : k = l.length := by omega
            rw [List.take_of_length_le (by simp)] at hnr ⊢
            have hDn := Hn1.out.trans hnr
            have HDn := Lib.hid hDn
            have Hfin := Lib.hid (hW.trans (hV.mono hW.size))
            clear hnr hDn hV
            go_wp2_with fail
            go_ret2
            exact ⟨inst_ret (by rw [(HRR.out.2 HDn.out).1, Hn2.out]; rfl) (by rw [(HRR.out.2 HDn.out).2]; rfl), Hfin.out⟩
      have hn7 := hk7
      clear hk7
      by_cases hk8 : t.kind = 8
      · have e1 : (t.kind == 1) = false := by simp [hk8]
        have e7 : (t.kind == 7) = false := by simp [hk8]
        have e8 : (t.kind == 8) = true := by simp [hk8]
        have e6 : (t.kind == 6) = false := by simp [hk8]
        have e5 : (t.kind == 5) = false := by simp [hk8]
        have e3 : (t.kind == 3) = false := by simp [hk8]
        have e4 : (t.kind == 4) = false := by simp [h4]
        have hI : IB = 1 := by rw [← HIB.out]; unfold ibase; rw [if_pos (.inr (.inr (.inl hk8)))]
        have HI := Lib.hid hI
        clear hI hk8 h4
        go_enter Try.func17, Try.ntmps17
        go_wp2_with fail
        refine hK.mono ?_
        clear hK
        rintro e w1 ⟨a1, cap1, rfl, hR, b1⟩
        replace hW := hW.trans (b1.mono hW.size)
        clear b1 q0 q5
        have hl1 := hR.1
        have hl2 := hR.2.1
        unfold maxLen at hl2
        have HR := Lib.hid hR.2.2
        clear hR
        go_wp2_with fail
        go_loopw [4, 30] (fun s i wr => ∃ k : Nat, k ≤ l.length ∧ i = .int .i64 k ∧ s = .int .i64 (IB + (cszs ((l.map canon).take k) : Int)) ∧ noReps ((l.map canon).take k) = true ∧ Below w1.heap.size w1 wr) (fun _ i _ => l.length - (intOf i).toNat)
        case atStart => exact ⟨0, by omega, rfl, (by rw [HI.out]; rfl), rfl, Below.refl _ _⟩
        case round =>
          obtain ⟨k, hk, rfl, rfl, hnr, hV⟩ := hrel
          have Hnr := Lib.hid hnr
          by_cases hlt : k < l.length
          · obtain ⟨b, o, rfl, hbl, hx⟩ := HR.out (by omega)
            obtain ⟨a', cap', h9, hr⟩ := hx k hlt
            replace h9 := h9.below hV hbl
            replace hr := hr.below hV
            have hlm : k < (l.map canon).length := by simpa using hlt
            have hsn := cszs_take (l.map canon) k hlm
            have hrn := noreps_take (l.map canon) k hlm
            have hzn := nsizes_take (l.map canon) k hlm
            have hzl := nsizes_le (l.map canon) (k + 1)
            have hz := Hns.out
            have hsz := noreps_size _ hnr
            rw [hnr, Bool.true_and, List.getElem_map] at hrn
            rw [List.getElem_map] at hsn hzn
            have hcx := Hn3.out _ (List.getElem_mem hlt)
            obtain ⟨c0, c1, c2, c3, c4, c5, c6, c7, c8⟩ := h9
            clear hx hnr
            generalize l[k] = x at *
            have hC := ih x a' cap'
            have hx1 : nsize (canon x) ≤ 1000000 := by omega
            cases hrx : noRep (canon x)
            · rw [hrx] at hrn
              have hfalse : noReps (l.map canon) = false := noreps_no _ _ hrn
              have hDn : noRep D = false := Hn1.out.trans hfalse
              have HDn := Lib.hid hDn
              clear hsn hrn hzn hzl hz hsz hfalse hDn
              go_wp2_with fail
              refine (hC _ (hr.below ((Below.refl _ _).alloc (Nat.le_refl _) _)) hx1 hcx).mono ?_
              rintro e w2 ⟨he, b2⟩
              rw [hrx] at he
              subst he
              have hV2 := hV.trans ((((Below.refl wr.heap.size wr).alloc (Nat.le_refl _) _).trans (b2.mono (by simp))).mono hV.size)
              have hW2 := Lib.hid (hW.trans (hV2.mono hW.size))
              clear b2 hV hV2 hr c0 c1 c2 c3 c4 c5 c6 c7 c8
              go_wp2_with fail
              go_ret2
              exact ⟨inst_ret (by rw [(HRR.out.1 HDn.out).1]; rfl) (by rw [(HRR.out.1 HDn.out).2]; rfl), hW2.out⟩
            · rw [hrx] at hrn
              have hcx2 := norep_size _ hrx
              have Wn : IntKind.i64.wrap (IB + (cszs ((l.map canon).take k) : Int) + (csz (canon x) : Int)) = IB + (cszs ((l.map canon).take (k + 1)) : Int) := by
                rw [IntWalk.i64_in _ (by omega)]; omega
              have Hrn := Lib.hid hrn
              clear hsn hrn hzn hzl hz hsz hcx2
              go_wp2_with fail
              refine (hC _ (hr.below ((Below.refl _ _).alloc (Nat.le_refl _) _)) hx1 hcx).mono ?_
              rintro e w2 ⟨he, b2⟩
              rw [hrx] at he
              subst he
              have hV2 := hV.trans ((((Below.refl wr.heap.size wr).alloc (Nat.le_refl _) _).trans (b2.mono (by simp))).mono hV.size)
              clear b2 hV hr c0 c1 c2 c3 c4 c5 c6 c7 c8 hC hx1 hcx
              go_wp2_with fail
              go_roundw
              case rel => exact ⟨k + 1, by omega, by go_num, rfl, Hrn.out, hV2⟩
              case measure => simp [intOf]; omega
          · obtain rfl : k = l.length := by omega
            rw [List.take_of_length_le (by simp)] at hnr ⊢
            have hDn := Hn1.out.trans hnr
            have HDn := Lib.hid hDn
            have Hfin := Lib.hid (hW.trans (hV.mono hW.size))
            clear hnr hDn hV
            go_wp2_with fail
            go_ret2
            exact ⟨inst_ret (by rw [(HRR.out.2 HDn.out).1, Hn2.out]; rfl) (by rw [(HRR.out.2 HDn.out).2]; rfl), Hfin.out⟩
      have hn8 := hk8
      clear hk8
      by_cases hk6 : t.kind = 6
      · have e1 : (t.kind == 1) = false := by simp [hk6]
        have e7 : (t.kind == 7) = false := by simp [hk6]
        have e8 : (t.kind == 8) = false := by simp [hk6]
        have e6 : (t.kind == 6) = true := by simp [hk6]
        have e5 : (t.kind == 5) = false := by simp [hk6]
        have e3 : (t.kind == 3) = false := by simp [hk6]
        have e4 : (t.kind == 4) = false := by simp [h4]
        have hI : IB = 1 := by rw [← HIB.out]; unfold ibase; rw [if_pos (.inr (.inr (.inr hk6)))]
        have HI := Lib.hid hI
        clear hI hk6 h4
        go_enter Try.func17, Try.ntmps17
        go_wp2_with fail
        refine hK.mono ?_
        clear hK
        rintro e w1 ⟨a1, cap1, rfl, hR, b1⟩
        replace hW := hW.trans (b1.mono hW.size)
        clear b1 q0 q5
        have hl1 := hR.1
        have hl2 := hR.2.1
        unfold maxLen at hl2
        have HR := Lib.hid hR.2.2
        clear hR
        go_wp2_with fail
        go_loopw [4, 30] (fun s i wr => ∃ k : Nat, k ≤ l.length ∧ i = .int .i64 k ∧ s = .int .i64 (IB + (cszs ((l.map canon).take k) : Int)) ∧ noReps ((l.map canon).take k) = true ∧ Below w1.heap.size w1 wr) (fun _ i _ => l.length - (intOf i).toNat)
        case atStart => exact ⟨0, by omega, rfl, (by rw [HI.out]; rfl), rfl, Below.refl _ _⟩
        case round =>
          obtain ⟨k, hk, rfl, rfl, hnr, hV⟩ := hrel
          have Hnr := Lib.hid hnr
          by_cases hlt : k < l.length
          · obtain ⟨b, o, rfl, hbl, hx⟩ := HR.out (by omega)
            obtain ⟨a', cap', h9, hr⟩ := hx k hlt
            replace h9 := h9.below hV hbl
            replace hr := hr.below hV
            have hlm : k < (l.map canon).length := by simpa using hlt
            have hsn := cszs_take (l.map canon) k hlm
            have hrn := noreps_take (l.map canon) k hlm
            have hzn := nsizes_take (l.map canon) k hlm
            have hzl := nsizes_le (l.map canon) (k + 1)
            have hz := Hns.out
            have hsz := noreps_size _ hnr
            rw [hnr, Bool.true_and, List.getElem_map] at hrn
            rw [List.getElem_map] at hsn hzn
            have hcx := Hn3.out _ (List.getElem_mem hlt)
            obtain ⟨c0, c1, c2, c3, c4, c5, c6, c7, c8⟩ := h9
            clear hx hnr
            generalize l[k] = x at *
            have hC := ih x a' cap'
            have hx1 : nsize (canon x) ≤ 1000000 := by omega
            cases hrx : noRep (canon x)
            · rw [hrx] at hrn
              have hfalse : noReps (l.map canon) = false := noreps_no _ _ hrn
              have hDn : noRep D = false := Hn1.out.trans hfalse
              have HDn := Lib.hid hDn
              clear hsn hrn hzn hzl hz hsz hfalse hDn
              go_wp2_with fail
              refine (hC _ (hr.below ((Below.refl _ _).alloc (Nat.le_refl _) _)) hx1 hcx).mono ?_
              rintro e w2 ⟨he, b2⟩
              rw [hrx] at he
              subst he
              have hV2 := hV.trans ((((Below.refl wr.heap.size wr).alloc (Nat.le_refl _) _).trans (b2.mono (by simp))).mono hV.size)
              have hW2 := Lib.hid (hW.trans (hV2.mono hW.size))
              clear b2 hV hV2 hr c0 c1 c2 c3 c4 c5 c6 c7 c8
              go_wp2_with fail
              go_ret2
              exact ⟨inst_ret (by rw [(HRR.out.1 HDn.out).1]; rfl) (by rw [(HRR.out.1 HDn.out).2]; rfl), hW2.out⟩
            · rw [hrx] at hrn
              have hcx2 := norep_size _ hrx
              have Wn : IntKind.i64.wrap (IB + (cszs ((l.map canon).take k) : Int) + (csz (canon x) : Int)) = IB + (cszs ((l.map canon).take (k + 1)) : Int) := by
                rw [IntWalk.i64_in _ (by omega)]; omega
              have Hrn := Lib.hid hrn
              clear hsn hrn hzn hzl hz hsz hcx2
              go_wp2_with fail
              refine (hC _ (hr.below ((Below.refl _ _).alloc (Nat.le_refl _) _)) hx1 hcx).mono ?_
              rintro e w2 ⟨he, b2⟩
              rw [hrx] at he
              subst he
              have hV2 := hV.trans ((((Below.refl wr.heap.size wr).alloc (Nat.le_refl _) _).trans (b2.mono (by simp))).mono hV.size)
              clear b2 hV hr c0 c1 c2 c3 c4 c5 c6 c7 c8 hC hx1 hcx
              go_wp2_with fail
              go_roundw
              case rel => exact ⟨k + 1, by omega, by go_num, rfl, Hrn.out, hV2⟩
              case measure => simp [intOf]; omega
          · obtain rfl : k = l.length := by omega
            rw [List.take_of_length_le (by simp)] at hnr ⊢
            have hDn := Hn1.out.trans hnr
            have HDn := Lib.hid hDn
            have Hfin := Lib.hid (hW.trans (hV.mono hW.size))
            clear hnr hDn hV
            go_wp2_with fail
            go_ret2
            exact ⟨inst_ret (by rw [(HRR.out.2 HDn.out).1, Hn2.out]; rfl) (by rw [(HRR.out.2 HDn.out).2]; rfl), Hfin.out⟩
      have hn6 := hk6
      clear hk6
      by_cases hk5 : t.kind = 5
      · have e1 : (t.kind == 1) = false := by simp [hk5]
        have e7 : (t.kind == 7) = false := by simp [hk5]
        have e8 : (t.kind == 8) = false := by simp [hk5]
        have e6 : (t.kind == 6) = false := by simp [hk5]
        have e5 : (t.kind == 5) = true := by simp [hk5]
        have e3 : (t.kind == 3) = false := by simp [hk5]
        have e4 : (t.kind == 4) = false := by simp [h4]
        have hI : IB = 2 := by rw [← HIB.out]; unfold ibase; rw [if_neg (by omega), if_pos hk5]
        have HI := Lib.hid hI
        clear hI hk5 h4
        go_enter Try.func17, Try.ntmps17
        go_wp2_with fail
        refine hK.mono ?_
        clear hK
        rintro e w1 ⟨a1, cap1, rfl, hR, b1⟩
        replace hW := hW.trans (b1.mono hW.size)
        clear b1 q0 q5
        have hl1 := hR.1
        have hl2 := hR.2.1
        unfold maxLen at hl2
        have HR := Lib.hid hR.2.2
        clear hR
        go_wp2_with fail
        go_loopw [4, 30] (fun s i wr => ∃ k : Nat, k ≤ l.length ∧ i = .int .i64 k ∧ s = .int .i64 (IB + (cszs ((l.map canon).take k) : Int)) ∧ noReps ((l.map canon).take k) = true ∧ Below w1.heap.size w1 wr) (fun _ i _ => l.length - (intOf i).toNat)
        case atStart => exact ⟨0, by omega, rfl, (by rw [HI.out]; rfl), rfl, Below.refl _ _⟩
        case round =>
          obtain ⟨k, hk, rfl, rfl, hnr, hV⟩ := hrel
          have Hnr := Lib.hid hnr
          by_cases hlt : k < l.length
          · obtain ⟨b, o, rfl, hbl, hx⟩ := HR.out (by omega)
            obtain ⟨a', cap', h9, hr⟩ := hx k hlt
            replace h9 := h9.below hV hbl
            replace hr := hr.below hV
            have hlm : k < (l.map canon).length := by simpa using hlt
            have hsn := cszs_take (l.map canon) k hlm
            have hrn := noreps_take (l.map canon) k hlm
            have hzn := nsizes_take (l.map canon) k hlm
            have hzl := nsizes_le (l.map canon) (k + 1)
            have hz := Hns.out
            have hsz := noreps_size _ hnr
            rw [hnr, Bool.true_and, List.getElem_map] at hrn
            rw [List.getElem_map] at hsn hzn
            have hcx := Hn3.out _ (List.getElem_mem hlt)
            obtain ⟨c0, c1, c2, c3, c4, c5, c6, c7, c8⟩ := h9
            clear hx hnr
            generalize l[k] = x at *
            have hC := ih x a' cap'
            have hx1 : nsize (canon x) ≤ 1000000 := by omega
            cases hrx : noRep (canon x)
            · rw [hrx] at hrn
              have hfalse : noReps (l.map canon) = false := noreps_no _ _ hrn
              have hDn : noRep D = false := Hn1.out.trans hfalse
              have HDn := Lib.hid hDn
              clear hsn hrn hzn hzl hz hsz hfalse hDn
              go_wp2_with fail
              refine (hC _ (hr.below ((Below.refl _ _).alloc (Nat.le_refl _) _)) hx1 hcx).mono ?_
              rintro e w2 ⟨he, b2⟩
              rw [hrx] at he
              subst he
              have hV2 := hV.trans ((((Below.refl wr.heap.size wr).alloc (Nat.le_refl _) _).trans (b2.mono (by simp))).mono hV.size)
              have hW2 := Lib.hid (hW.trans (hV2.mono hW.size))
              clear b2 hV hV2 hr c0 c1 c2 c3 c4 c5 c6 c7 c8
              go_wp2_with fail
              go_ret2
              exact ⟨inst_ret (by rw [(HRR.out.1 HDn.out).1]; rfl) (by rw [(HRR.out.1 HDn.out).2]; rfl), hW2.out⟩
            · rw [hrx] at hrn
              have hcx2 := norep_size _ hrx
              have Wn : IntKind.i64.wrap (IB + (cszs ((l.map canon).take k) : Int) + (csz (canon x) : Int)) = IB + (cszs ((l.map canon).take (k + 1)) : Int) := by
                rw [IntWalk.i64_in _ (by omega)]; omega
              have Hrn := Lib.hid hrn
              clear hsn hrn hzn hzl hz hsz hcx2
              go_wp2_with fail
              refine (hC _ (hr.below ((Below.refl _ _).alloc (Nat.le_refl _) _)) hx1 hcx).mono ?_
              rintro e w2 ⟨he, b2⟩
              rw [hrx] at he
              subst he
              have hV2 := hV.trans ((((Below.refl wr.heap.size wr).alloc (Nat.le_refl _) _).trans (b2.mono (by simp))).mono hV.size)
              clear b2 hV hr c0 c1 c2 c3 c4 c5 c6 c7 c8 hC hx1 hcx
              go_wp2_with fail
              go_roundw
              case rel => exact ⟨k + 1, by omega, by go_num, rfl, Hrn.out, hV2⟩
              case measure => simp [intOf]; omega
          · obtain rfl : k = l.length := by omega
            rw [List.take_of_length_le (by simp)] at hnr ⊢
            have hDn := Hn1.out.trans hnr
            have HDn := Lib.hid hDn
            have Hfin := Lib.hid (hW.trans (hV.mono hW.size))
            clear hnr hDn hV
            go_wp2_with fail
            go_ret2
            exact ⟨inst_ret (by rw [(HRR.out.2 HDn.out).1, Hn2.out]; rfl) (by rw [(HRR.out.2 HDn.out).2]; rfl), Hfin.out⟩
      have hn5 := hk5
      clear hk5
      by_cases hk3 : t.kind = 3
      · have e1 : (t.kind == 1) = false := by simp [hk3]
        have e7 : (t.kind == 7) = false := by simp [hk3]
        have e8 : (t.kind == 8) = false := by simp [hk3]
        have e6 : (t.kind == 6) = false := by simp [hk3]
        have e5 : (t.kind == 5) = false := by simp [hk3]
        have e3 : (t.kind == 3) = true := by simp [hk3]
        have e4 : (t.kind == 4) = false := by simp [h4]
        obtain ⟨P, W1, W2⟩ := H3l.out hk3
        clear hk3 h4
        go_enter Try.func17, Try.ntmps17
        go_wp2_with fail
        refine hK.mono ?_
        clear hK
        rintro e w1 ⟨a1, cap1, rfl, hR, b1⟩
        replace hW := hW.trans (b1.mono hW.size)
        clear b1 q0 q5
        have hl1 := hR.1
        have hl2 := hR.2.1
        unfold maxLen at hl2
        have HR := Lib.hid hR.2.2
        clear hR
        go_wp2_with fail
        go_loopw [4, 30] (fun s i wr => ∃ k : Nat, k ≤ l.length ∧ i = .int .i64 k ∧ s = .int .i64 (IB + (cszs ((l.map canon).take k) : Int)) ∧ noReps ((l.map canon).take k) = true ∧ Below w1.heap.size w1 wr) (fun _ i _ => l.length - (intOf i).toNat)
        case atStart => exact ⟨0, by omega, rfl, (by simp [cszs]), rfl, Below.refl _ _⟩
        case round =>
          obtain ⟨k, hk, rfl, rfl, hnr, hV⟩ := hrel
          have Hnr := Lib.hid hnr
          by_cases hlt : k < l.length
          · obtain ⟨b, o, rfl, hbl, hx⟩ := HR.out (by omega)
            obtain ⟨a', cap', h9, hr⟩ := hx k hlt
            replace h9 := h9.below hV hbl
            replace hr := hr.below hV
            have hlm : k < (l.map canon).length := by simpa using hlt
            have hsn := cszs_take (l.map canon) k hlm
            have hrn := noreps_take (l.map canon) k hlm
            have hzn := nsizes_take (l.map canon) k hlm
            have hzl := nsizes_le (l.map canon) (k + 1)
            have hz := Hns.out
            have hsz := noreps_size _ hnr
            rw [hnr, Bool.true_and, List.getElem_map] at hrn
            rw [List.getElem_map] at hsn hzn
            have hcx := Hn3.out _ (List.getElem_mem hlt)
            obtain ⟨c0, c1, c2, c3, c4, c5, c6, c7, c8⟩ := h9
            clear hx hnr
            generalize l[k] = x at *
            have hC := ih x a' cap'
            have hx1 : nsize (canon x) ≤ 1000000 := by omega
            cases hrx : noRep (canon x)
            · rw [hrx] at hrn
              have hfalse : noReps (l.map canon) = false := noreps_no _ _ hrn
              have hDn : noRep D = false := Hn1.out.trans hfalse
              have HDn := Lib.hid hDn
              clear hsn hrn hzn hzl hz hsz hfalse hDn
              go_wp2_with fail
              refine (hC _ (hr.below ((Below.refl _ _).alloc (Nat.le_refl _) _)) hx1 hcx).mono ?_
              rintro e w2 ⟨he, b2⟩
              rw [hrx] at he
              subst he
              have hV2 := hV.trans ((((Below.refl wr.heap.size wr).alloc (Nat.le_refl _) _).trans (b2.mono (by simp))).mono hV.size)
              have hW2 := Lib.hid (hW.trans (hV2.mono hW.size))
              clear b2 hV hV2 hr c0 c1 c2 c3 c4 c5 c6 c7 c8
              go_wp2_with fail
              go_ret2
              exact ⟨inst_ret (by rw [(HRR.out.1 HDn.out).1]; rfl) (by rw [(HRR.out.1 HDn.out).2]; rfl), hW2.out⟩
            · rw [hrx] at hrn
              have hcx2 := norep_size _ hrx
              have Wn : IntKind.i64.wrap (IB + (cszs ((l.map canon).take k) : Int) + (csz (canon x) : Int)) = IB + (cszs ((l.map canon).take (k + 1)) : Int) := by
                rw [IntWalk.i64_in _ (by omega)]; omega
              have Hrn := Lib.hid hrn
              clear hsn hrn hzn hzl hz hsz hcx2
              go_wp2_with fail
              refine (hC _ (hr.below ((Below.refl _ _).alloc (Nat.le_refl _) _)) hx1 hcx).mono ?_
              rintro e w2 ⟨he, b2⟩
              rw [hrx] at he
              subst he
              have hV2 := hV.trans ((((Below.refl wr.heap.size wr).alloc (Nat.le_refl _) _).trans (b2.mono (by simp))).mono hV.size)
              clear b2 hV hr c0 c1 c2 c3 c4 c5 c6 c7 c8 hC hx1 hcx
              go_wp2_with fail
              go_roundw
              case rel => exact ⟨k + 1, by omega, by go_num, rfl, Hrn.out, hV2⟩
              case measure => simp [intOf]; omega
          · obtain rfl : k = l.length := by omega
            rw [List.take_of_length_le (by simp)] at hnr ⊢
            have hDn := Hn1.out.trans hnr
            have HDn := Lib.hid hDn
            have Hfin := Lib.hid (hW.trans (hV.mono hW.size))
            clear hnr hDn hV
            go_wp2_with fail
            go_ret2
            exact ⟨inst_ret (by rw [(HRR.out.2 HDn.out).1, Hn2.out]; rfl) (by rw [(HRR.out.2 HDn.out).2]; rfl), Hfin.out⟩
      have hn3 := hk3
      clear hk3
      have e1 : (t.kind == 1) = false := by simp [hn1]
      have e7 : (t.kind == 7) = false := by simp [hn7]
      have e8 : (t.kind == 8) = false := by simp [hn8]
      have e6 : (t.kind == 6) = false := by simp [hn6]
      have e5 : (t.kind == 5) = false := by simp [hn5]
      have e3 : (t.kind == 3) = false := by simp [hn3]
      have e4 : (t.kind == 4) = false := by simp [h4]
      have hI : IB = 0 := by rw [← HIB.out]; unfold ibase; rw [if_neg (by omega), if_neg (by omega), if_neg (by omega)]
      have HI := Lib.hid hI
      clear hI h4 hn1 hn7 hn8 hn6 hn5 hn3
      go_enter Try.func17, Try.ntmps17
      go_wp2_with fail
      refine hK.mono ?_
      clear hK
      rintro e w1 ⟨a1, cap1, rfl, hR, b1⟩
      replace hW := hW.trans (b1.mono hW.size)
      clear b1 q0 q5
      have hl1 := hR.1
      have hl2 := hR.2.1
      unfold maxLen at hl2
      have HR := Lib.hid hR.2.2
      clear hR
      go_wp2_with fail
      go_loopw [4, 30] (fun s i wr => ∃ k : Nat, k ≤ l.length ∧ i = .int .i64 k ∧ s = .int .i64 (IB + (cszs ((l.map canon).take k) : Int)) ∧ noReps ((l.map canon).take k) = true ∧ Below w1.heap.size w1 wr) (fun _ i _ => l.length - (intOf i).toNat)
      case atStart => exact ⟨0, by omega, rfl, (by rw [HI.out]; rfl), rfl, Below.refl _ _⟩
      case round =>
        obtain ⟨k, hk, rfl, rfl, hnr, hV⟩ := hrel
        have Hnr := Lib.hid hnr
        by_cases hlt : k < l.length
        · obtain ⟨b, o, rfl, hbl, hx⟩ := HR.out (by omega)
          obtain ⟨a', cap', h9, hr⟩ := hx k hlt
          replace h9 := h9.below hV hbl
          replace hr := hr.below hV
          have hlm : k < (l.map canon).length := by simpa using hlt
          have hsn := cszs_take (l.map canon) k hlm
          have hrn := noreps_take (l.map canon) k hlm
          have hzn := nsizes_take (l.map canon) k hlm
          have hzl := nsizes_le (l.map canon) (k + 1)
          have hz := Hns.out
          have hsz := noreps_size _ hnr
          rw [hnr, Bool.true_and, List.getElem_map] at hrn
          rw [List.getElem_map] at hsn hzn
          have hcx := Hn3.out _ (List.getElem_mem hlt)
          obtain ⟨c0, c1, c2, c3, c4, c5, c6, c7, c8⟩ := h9
          clear hx hnr
          generalize l[k] = x at *
          have hC := ih x a' cap'
          have hx1 : nsize (canon x) ≤ 1000000 := by omega
          cases hrx : noRep (canon x)
          · rw [hrx] at hrn
            have hfalse : noReps (l.map canon) = false := noreps_no _ _ hrn
            have hDn : noRep D = false := Hn1.out.trans hfalse
            have HDn := Lib.hid hDn
            clear hsn hrn hzn hzl hz hsz hfalse hDn
            go_wp2_with fail
            refine (hC _ (hr.below ((Below.refl _ _).alloc (Nat.le_refl _) _)) hx1 hcx).mono ?_
            rintro e w2 ⟨he, b2⟩
            rw [hrx] at he
            subst he
            have hV2 := hV.trans ((((Below.refl wr.heap.size wr).alloc (Nat.le_refl _) _).trans (b2.mono (by simp))).mono hV.size)
            have hW2 := Lib.hid (hW.trans (hV2.mono hW.size))
            clear b2 hV hV2 hr c0 c1 c2 c3 c4 c5 c6 c7 c8
            go_wp2_with fail
            go_ret2
            exact ⟨inst_ret (by rw [(HRR.out.1 HDn.out).1]; rfl) (by rw [(HRR.out.1 HDn.out).2]; rfl), hW2.out⟩
          · rw [hrx] at hrn
            have hcx2 := norep_size _ hrx
            have Wn : IntKind.i64.wrap (IB + (cszs ((l.map canon).take k) : Int) + (csz (canon x) : Int)) = IB + (cszs ((l.map canon).take (k + 1)) : Int) := by
              rw [IntWalk.i64_in _ (by omega)]; omega
            have Hrn := Lib.hid hrn
            clear hsn hrn hzn hzl hz hsz hcx2
            go_wp2_with fail
            refine (hC _ (hr.below ((Below.refl _ _).alloc (Nat.le_refl _) _)) hx1 hcx).mono ?_
            rintro e w2 ⟨he, b2⟩
            rw [hrx] at he
            subst he
            have hV2 := hV.trans ((((Below.refl wr.heap.size wr).alloc (Nat.le_refl _) _).trans (b2.mono (by simp))).mono hV.size)
            clear b2 hV hr c0 c1 c2 c3 c4 c5 c6 c7 c8 hC hx1 hcx
            go_wp2_with fail
            go_roundw
            case rel => exact ⟨k + 1, by omega, by go_num, rfl, Hrn.out, hV2⟩
            case measure => simp [intOf]; omega
        · obtain rfl : k = l.length := by omega
          rw [List.take_of_length_le (by simp)] at hnr ⊢
          have hDn := Hn1.out.trans hnr
          have HDn := Lib.hid hDn
          have Hfin := Lib.hid (hW.trans (hV.mono hW.size))
          clear hnr hDn hV
          go_wp2_with fail
          go_ret2
          exact ⟨inst_ret (by rw [(HRR.out.2 HDn.out).1, Hn2.out]; rfl) (by rw [(HRR.out.2 HDn.out).2]; rfl), Hfin.out⟩
end Go.Proofs.Ytjjhkagpoicimaa
