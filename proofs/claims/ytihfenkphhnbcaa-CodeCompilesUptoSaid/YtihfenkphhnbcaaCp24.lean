/- The proof's texts TrRight, TrFew: what the claim reaches of them. -/
import Derived.Test.YtihfenkphhnbcaaCp06
import Derived.Test.YtihfenkphhnbcaaCp01
import Derived.Test.YtihfenkphhnbcaaCp04
import Derived.Deep.DeepCutAuto
import Derived.Deep.LoopGhost
import Derived.Deep.QuietTactic
import Derived.BigQuiet
import Derived.Deep.CutBlock
import Derived.Deep.RegionLaw
import Derived.Deep.AppendLies
namespace Go.Proofs.Ytihfenkphhnbcaa
open Go Go.RowKit
def IntsAt (w : World) (c : List Int) (a : Option Addr) (cap : Nat) : Prop :=
  c.length ≤ cap ∧ cap ≤ maxLen ∧ (0 < c.length → ∃ b o, a = some ⟨b, o, none⟩ ∧ b < w.heap.size ∧ ∀ i (h : i < c.length), w.cell? ⟨b, o + i, none⟩ = some (.int .i64 c[i]))
theorem IntsAt.below {w w' : World} {c : List Int} {a : Option Addr} {cap : Nat} (h : IntsAt w c a cap) (hb : Below w.heap.size w w') : IntsAt w' c a cap := by
  refine ⟨h.1, h.2.1, fun h0 => ?_⟩
  obtain ⟨b, o, rfl, hlt, hk⟩ := h.2.2 h0
  exact ⟨b, o, rfl, Nat.lt_of_lt_of_le hlt hb.size, fun i hi => (hb.cell (p := ⟨b, _, none⟩) hlt).trans (hk i hi)⟩
theorem IntsAt.nil (w : World) : IntsAt w [] none 0 := ⟨Nat.le_refl _, Nat.zero_le _, fun h => absurd h (by simp)⟩
def RRet (r : Option (Int × List Int)) (w : World) (e : Ending) : Prop := match r with
  | none => e = .returned (.tuple #[.bool false, .int .i64 0, .slice none 0 0])
  | some q => ∃ a cap, e = .returned (.tuple #[.bool true, .int .i64 q.1, .slice a q.2.length cap]) ∧ IntsAt w q.2 a cap
structure RHd (t : Tr) (l : List Tr) (d : Nd) (o : Int) (c : List Int) (R : Option (Int × List Int)) : Prop where
  k : 0 ≤ t.kind ∧ t.kind ≤ 8
  no : nfit d o c = false → R = none
  yes : nfit d o c = true → R = (nrights (l.map canon) (if t.kind = 5 then o + 1 else o) c).map (fun r => if t.kind = 5 then (r.1, r.2 ++ [t.num]) else r)
  f0 : t.kind = 0 ∨ t.kind = 1 ∨ t.kind = 7 ∨ t.kind = 8 → nfit d o c = true
  f2 : t.kind = 2 → nfit d o c = (decide (2 ≤ l.length) && (l.map canon).all inCat)
  f3 : t.kind = 3 → nfit d o c = (decide (2 ≤ l.length) && (l.map canon).all inAlt)
  f4 : t.kind = 4 → ∃ x, l = [x] ∧ nfit d o c = (okRep t.mn t.mx && inRep (canon x))
  f5 : t.kind = 5 → nfit d o c = decide (t.num = o + 1)
  f6 : t.kind = 6 → nfit d o c = c.contains t.num
  kn : ∀ i (h : i < l.length), tknown l[i] = true
  cnt : ngroups d = ngroupss (l.map canon) + (if t.kind = 5 then 1 else 0)
theorem rhd_mk (t : Tr) (o : Int) (c : List Int) (h : tknown t = true) : RHd t (tkids t) (canon t) o c (nright (canon t) o c) := by
  have hk := nright_kids (canon t) o c
  have hg := canon_grp t
  have hn := ngroups_kids (canon t)
  rw [canon_kids] at hk hn
  have hgi : (ngrp (canon t) = true) ↔ t.kind = 5 := by rw [hg]; simp
  refine ⟨known_kind t h, fun hf => by rw [hk, hf]; rfl, fun hf => ?_, fun h0 => ?_, fun h2 => ?_, fun h3 => ?_, fun h4 => ?_, fun h5 => ?_, fun h6 => ?_, known_kids t h, ?_⟩
  · rw [hk, hf, if_pos rfl]
    by_cases h5 : t.kind = 5
    · have hc := (canon_5 t h5).1
      have ho : nopen (canon t) o = o + 1 := by unfold nopen; rw [if_pos (hgi.2 h5)]
      rw [ho, if_pos h5]
      congr 1
      funext r
      unfold nclose
      rw [if_pos (hgi.2 h5), if_pos h5, hc]
      rfl
    · have ho : nopen (canon t) o = o := by unfold nopen; rw [if_neg (fun h => h5 (hgi.1 h))]
      rw [ho, if_neg h5]
      congr 1
      funext r
      unfold nclose
      rw [if_neg (fun h => h5 (hgi.1 h)), if_neg h5]
  · rcases h0 with h0 | h0 | h0 | h0
    · rw [canon_0 t (by omega) (by omega) (by omega) (by omega) (by omega) (by omega) (by omega) (by omega)]; rfl
    · rw [canon_1 t h0]; rfl
    · rw [canon_7 t h0]; rfl
    · rw [canon_8 t h0]; rfl
  · rw [canon_2 t h2]; show (decide (2 ≤ ((tkids t).map canon).length) && _) = _; rw [List.length_map]
  · rw [canon_3 t h3]; show (decide (2 ≤ ((tkids t).map canon).length) && _) = _; rw [List.length_map]
  · rw [(canon_4 t h4).1]; exact ⟨tof t, (canon_4 t h4).2, rfl⟩
  · rw [(canon_5 t h5).1]; rfl
  · rw [canon_6 t h6]; rfl
  · rw [hn, hg]
    by_cases h5 : t.kind = 5 <;> simp [h5]
theorem okRep_eq (mn mx : Int) : okRep mn mx = !((decide (mn < 0) || decide (255 < mn)) || ((mx != -1) && (decide (mx < mn) || decide (255 < mx)))) := by
  unfold okRep
  rw [Bool.eq_iff_iff]
  simp only [Bool.and_eq_true, Bool.or_eq_true, Bool.not_eq_true', Bool.or_eq_false_iff, Bool.and_eq_false_iff, decide_eq_true_eq, decide_eq_false_iff_not, bne_eq_false_iff_eq]
  omega
theorem ints_own {base : Nat} {e : TypeId} {v : Value} {n : Nat} {w : World} {c : List Int} (h : w.ownsRow base e 1 v n (c.map (.int .i64))) (hx : c.length = n) : ∃ a cap, v = .slice a c.length cap ∧ IntsAt w c a cap := by
  subst hx
  obtain ⟨a, cap, rfl, h1, h2, h3⟩ := own_row h (by simp)
  refine ⟨a, cap, rfl, h1, h2, fun h0 => ?_⟩
  obtain ⟨g, rfl, _, hg, hc⟩ := h3 h0
  exact ⟨g, 0, rfl, hg, fun i hi => by rw [hc i (by simpa using hi)]; simp⟩
theorem IntsAt.news {w : World} {c : List Int} {a : Option Addr} {cap : Nat} (h : IntsAt w c a cap) : 0 < c.length → ∃ a', a = some a' ∧ ∀ j u, (c.map (Value.int .i64))[j]? = some u → w.cell? (a'.add j) = some u := by
  intro h0
  obtain ⟨b, o, rfl, _, hk⟩ := h.2.2 h0
  refine ⟨_, rfl, fun j u hu => ?_⟩
  rw [List.getElem?_map] at hu
  obtain ⟨x, hx, rfl⟩ := Option.map_eq_some_iff.1 hu
  obtain ⟨hj, rfl⟩ := List.getElem?_eq_some_iff.1 hx
  rw [Go.WideShapes.add_plain]
  exact hk j hj
theorem one_news {w : World} {b : Nat} {u : Value} (h : w.cell? ⟨b, 0, none⟩ = some u) : ∀ j u', [u][j]? = some u' → w.cell? ((⟨b, 0, none⟩ : Addr).add j) = some u' := by
  intro j u' hu
  match j, hu with
  | 0, hu => simp at hu; subst hu; simpa [Addr.add] using h
theorem rret_none {R : Option (Int × List Int)} {w : World} (h : R = none) : RRet R w (.returned (.tuple #[.bool false, .int .i64 0, .slice none 0 0])) := by rw [h]; rfl
theorem int_info : ∃ i, Try.prog.info? 3 = some i ∧ i.zero = some (.int .i64 0) ∧ i.size = 1 ∧ i.bytes = 8 := by
  have h : (Try.prog.info? 3).map (fun i => (i.zero, i.size, i.bytes)) = some (some (.int .i64 0), 1, 8) := by kernel_rfl
  obtain ⟨i, hi, he⟩ := Option.map_eq_some_iff.1 h
  injection he with h1 h2
  injection h2 with h2 h3
  exact ⟨i, hi, h1, h2, h3⟩
theorem own_e0 (wr : World) : (wr.alloc (.cells #[] 3)).ownsRow wr.heap.size 3 1 (.slice (some ⟨wr.heap.size, 0, none⟩) 0 0) 0 [] := own_empty wr 3 1 wr.heap.size rfl (Nat.le_refl _)
theorem cell_n1 (wr : World) (n : Int) : ((wr.alloc (.cells #[] 3)).alloc (.cells #[.int .i64 n] 3)).cell? ⟨wr.heap.size + 1, 0, none⟩ = some (.int .i64 n) :=
  ((Blk.new (wr.alloc (.cells #[] 3)) #[.int .i64 n] 3 (wr.heap.size + 1) (by simp)).cell 0).trans rfl
theorem cell_n0 (wr : World) (n : Int) : ((wr.alloc (.cells #[.int .i64 n] 3)).alloc (.cells #[] 3)).cell? ⟨wr.heap.size, 0, none⟩ = some (.int .i64 n) :=
  (((Blk.new wr #[.int .i64 n] 3 wr.heap.size rfl).alloc (.cells #[] 3)).cell 0).trans rfl
theorem own_e1 (wr : World) (n : Int) : ((wr.alloc (.cells #[.int .i64 n] 3)).alloc (.cells #[] 3)).ownsRow wr.heap.size 3 1 (.slice (some ⟨wr.heap.size + 1, 0, none⟩) 0 0) 0 [] := own_empty (wr.alloc (.cells #[.int .i64 n] 3)) 3 1 (wr.heap.size + 1) (by simp) (by simp)
set_option linter.unusedSimpArgs false in
set_option maxRecDepth 100000 in
set_option maxHeartbeats 8000000 in
theorem rright_any : ∀ (N : Nat) (t : Tr) (a : Option Addr) (cap : Nat) (o : Int) (c : List Int) (ca : Option Addr) (cc : Nat) (w : World), TrD N w t a cap → tknown t = true → IntsAt w c ca cc → 0 ≤ o → o + ngroups (canon t) ≤ 4000000 → c.length + ngroups (canon t) ≤ 4000000 →
    Calls Try.prog 32 #[tV t a cap, .int .i64 o, .slice ca c.length cc] w fun e w' => RRet (nright (canon t) o c) w' e ∧ Below w.heap.size w w' := by
  intro N
  induction N with
  | zero => intro t a cap o c ca cc w h; exact (trd_zero h).elim
  | succ N ih =>
    intro t a cap o c ca cc w h hkn hc ho hob hcb
    have hT := (Blk.new w (tC t a cap) 27 _ rfl)
    have hW := (Below.refl w.heap.size w).alloc (Nat.le_refl _) (.cells (tC t a cap) 27)
    have hK := kids_any N t a cap _ (h.below hW)
    have hH := rhd_mk t o c hkn
    replace hc := hc.below hW
    clear h hkn
    generalize nright (canon t) o c = R at hH ⊢
    generalize canon t = d at hH hob hcb
    generalize tkids t = l at hK hH
    unfold tV at hK ⊢
    go_enter Try.func32, Try.ntmps32
    go_wp2_with fail
    refine hK.mono ?_
    clear hK
    rintro e w1 ⟨a1, cap1, rfl, hR, b1⟩
    replace hW := hW.trans (b1.mono hW.size)
    replace hc := hc.below b1
    replace hT := hT.below b1 hT.lt
    have hlT := hT.lt
    have t0 := (hT.cell 0).trans rfl
    clear b1
    have hl1 := hR.1
    have hl2 := hR.2.1
    unfold maxLen at hl2
    have HR := Lib.hid hR.2.2
    clear hR
    go_upto_block 0 with fail
    go_cut [1] (fun u wx => u = .int .i64 (if t.kind = 5 then o + 1 else o) ∧ nfit d o c = true ∧ Below w1.heap.size w1 wx)
    case first =>
      rcases (show (t.kind = 0 ∨ t.kind = 1 ∨ t.kind = 7 ∨ t.kind = 8) ∨ t.kind = 2 ∨ t.kind = 3 ∨ t.kind = 4 ∨ t.kind = 5 ∨ t.kind = 6 by have := hH.k; omega) with hk | hk | hk | hk | hk | hk
      · have hf := hH.f0 hk
        have Hf := Lib.hid hf
        have Hi := Lib.hid (show (if t.kind = 5 then o + 1 else o) = o from if_neg (by omega))
        have e2 : (t.kind == 2) = false := by simp; omega
        have e3 : (t.kind == 3) = false := by simp; omega
        have e4 : (t.kind == 4) = false := by simp; omega
        have e5 : (t.kind == 5) = false := by simp; omega
        have e6 : (t.kind == 6) = false := by simp; omega
        clear hk hf
        go_wp2_with fail
        all_goals go_meet
        all_goals exact ⟨by rw [Hi.out], Hf.out, Below.refl _ _⟩
      · have Hf := Lib.hid (hH.f2 hk)
        have Hi := Lib.hid (show (if t.kind = 5 then o + 1 else o) = o from if_neg (by omega))
        have e2 : (t.kind == 2) = true := by simp [hk]
        have e3 : (t.kind == 3) = false := by simp [hk]
        clear hk
        by_cases h2 : 2 ≤ l.length
        · have hd : decide ((l.length : Int) < 2) = false := by simp; omega
          have hd2 : decide (l.length < 2) = false := by simp; omega
          go_wp2_with fail
          go_loop [30] (fun i => ∃ k : Nat, k ≤ l.length ∧ i = .int .i64 k ∧ ((l.map canon).take k).all inCat = true) (fun i => l.length - (intOf i).toNat)
          case atStart => exact ⟨0, by omega, rfl, rfl⟩
          case round =>
            obtain ⟨k, hk', rfl, hA⟩ := hrel
            have HA := Lib.hid hA
            clear hA
            by_cases hlt : k < l.length
            · obtain ⟨b, o', rfl, hbl, hx⟩ := HR.out (by omega)
              obtain ⟨a', cap', h9, _⟩ := hx k hlt
              have c0 := h9.k
              have hin := canon_inCat l[k] (hH.kn k hlt)
              have Htk := Lib.hid (all_take inCat (l.map canon) k (by simpa using hlt))
              have Hno := Lib.hid (all_no inCat (l.map canon) k (by simpa using hlt))
              simp only [List.getElem_map] at Htk Hno
              clear h9 hx
              generalize l[k] = x at *
              cases q3 : (x.kind == 3)
              · cases q0 : (x.kind == 0)
                · cases q2 : (x.kind == 2)
                  · rw [q3, q0, q2] at hin
                    have Hin := Lib.hid hin
                    clear hin
                    go_wp2_with fail
                    go_round
                    case rel => exact ⟨k + 1, by omega, by go_num, by rw [Htk.out, HA.out, Hin.out]; rfl⟩
                    case measure => simp [intOf]; omega
                  · rw [q3, q0, q2] at hin
                    have Hin := Lib.hid (hH.no (by rw [Hf.out, Hno.out hin, Bool.and_false]))
                    clear hin
                    go_wp2_with fail
                    go_ret3
                    exact ⟨rret_none Hin.out, hW⟩
                · rw [q3, q0] at hin
                  have Hin := Lib.hid (hH.no (by rw [Hf.out, Hno.out hin, Bool.and_false]))
                  clear hin
                  go_wp2_with fail
                  go_ret3
                  exact ⟨rret_none Hin.out, hW⟩
              · rw [q3] at hin
                have Hin := Lib.hid (hH.no (by rw [Hf.out, Hno.out hin, Bool.and_false]))
                clear hin
                go_wp2_with fail
                go_ret3
                exact ⟨rret_none Hin.out, hW⟩
            · obtain rfl : k = l.length := by omega
              have HB := Lib.hid (show nfit d o c = true by rw [Hf.out, decide_eq_true h2]; have := HA.out; rw [List.take_of_length_le (by simp)] at this; rw [this]; rfl)
              go_wp2_with fail
              go_meet
              exact ⟨by rw [Hi.out], HB.out, Below.refl _ _⟩
        · have hd : decide ((l.length : Int) < 2) = true := by simp; omega
          have hd2 : decide (l.length < 2) = true := by simp; omega
          have Hin := Lib.hid (hH.no (by rw [Hf.out, decide_eq_false h2]; rfl))
          go_wp2_with fail
          go_ret3
          exact ⟨rret_none Hin.out, hW⟩
      · have Hf := Lib.hid (hH.f3 hk)
        have Hi := Lib.hid (show (if t.kind = 5 then o + 1 else o) = o from if_neg (by omega))
        have e2 : (t.kind == 2) = false := by simp [hk]
        have e3 : (t.kind == 3) = true := by simp [hk]
        clear hk
        by_cases h2 : 2 ≤ l.length
        · have hd : decide ((l.length : Int) < 2) = false := by simp; omega
          have hd2 : decide (l.length < 2) = false := by simp; omega
          go_wp2_with fail
          go_loop [30] (fun i => ∃ k : Nat, k ≤ l.length ∧ i = .int .i64 k ∧ ((l.map canon).take k).all inAlt = true) (fun i => l.length - (intOf i).toNat)
          case atStart => exact ⟨0, by omega, rfl, rfl⟩
          case round =>
            obtain ⟨k, hk', rfl, hA⟩ := hrel
            have HA := Lib.hid hA
            clear hA
            by_cases hlt : k < l.length
            · obtain ⟨b, o', rfl, hbl, hx⟩ := HR.out (by omega)
              obtain ⟨a', cap', h9, _⟩ := hx k hlt
              have c0 := h9.k
              have hin := canon_inAlt l[k] (hH.kn k hlt)
              have Htk := Lib.hid (all_take inAlt (l.map canon) k (by simpa using hlt))
              have Hno := Lib.hid (all_no inAlt (l.map canon) k (by simpa using hlt))
              simp only [List.getElem_map] at Htk Hno
              clear h9 hx
              generalize l[k] = x at *
              cases q3 : (x.kind == 3)
              · rw [q3] at hin
                have Hin := Lib.hid hin
                clear hin
                go_wp2_with fail
                go_round
                case rel => exact ⟨k + 1, by omega, by go_num, by rw [Htk.out, HA.out, Hin.out]; rfl⟩
                case measure => simp [intOf]; omega
              · rw [q3] at hin
                have Hin := Lib.hid (hH.no (by rw [Hf.out, Hno.out hin, Bool.and_false]))
                clear hin
                go_wp2_with fail
                go_ret3
                exact ⟨rret_none Hin.out, hW⟩
            · obtain rfl : k = l.length := by omega
              have HB := Lib.hid (show nfit d o c = true by rw [Hf.out, decide_eq_true h2]; have := HA.out; rw [List.take_of_length_le (by simp)] at this; rw [this]; rfl)
              go_wp2_with fail
              go_meet
              exact ⟨by rw [Hi.out], HB.out, Below.refl _ _⟩
        · have hd : decide ((l.length : Int) < 2) = true := by simp; omega
          have hd2 : decide (l.length < 2) = true := by simp; omega
          have Hin := Lib.hid (hH.no (by rw [Hf.out, decide_eq_false h2]; rfl))
          go_wp2_with fail
          go_ret3
          exact ⟨rret_none Hin.out, hW⟩
      · obtain ⟨x, rfl, hf⟩ := hH.f4 hk
        have Hi := Lib.hid (show (if t.kind = 5 then o + 1 else o) = o from if_neg (by omega))
        have e2 : (t.kind == 2) = false := by simp; omega
        have e3 : (t.kind == 3) = false := by simp; omega
        have e4 : (t.kind == 4) = true := by simp [hk]
        obtain ⟨b, o', rfl, hbl, hx⟩ := HR.out (by simp)
        obtain ⟨a', cap', h9, _⟩ := hx 0 (by simp)
        have c0 := h9.k
        simp only [Nat.zero_mul, Nat.add_zero, List.getElem_cons_zero] at c0
        have hkx := hH.kn 0 (by simp)
        simp only [List.getElem_cons_zero] at hkx
        rw [okRep_eq, canon_inRep x hkx] at hf
        have t6 := (hT.cell 6).trans rfl
        have t7 := (hT.cell 7).trans rfl
        have hno := hH.no
        have hB := Below.refl w1.heap.size w1
        clear hkx h9 hx hk HR hl1 hl2
        simp only [List.length_cons, List.length_nil, Nat.zero_add]
        cases r1 : decide (t.mn < 0)
        · cases r2 : decide (255 < t.mn)
          · cases r3 : (t.mx != -1)
            · cases k0 : (x.kind == 0); (cases k7 : (x.kind == 7); (cases k8 : (x.kind == 8); (cases k2 : (x.kind == 2); (cases k3 : (x.kind == 3); (have HB := Lib.hid (show nfit d o c = true by rw [hf]; simp [*]); clear hf hno; go_wp2_with fail; go_meet; exact ⟨by rw [Hi.out], HB.out, hB⟩); (have HB := Lib.hid (hno (by rw [hf]; simp [*])); clear hf hno; go_wp2_with fail; go_ret3; exact ⟨rret_none HB.out, hW⟩)); (have HB := Lib.hid (hno (by rw [hf]; simp [*])); clear hf hno; go_wp2_with fail; go_ret3; exact ⟨rret_none HB.out, hW⟩)); (have HB := Lib.hid (hno (by rw [hf]; simp [*])); clear hf hno; go_wp2_with fail; go_ret3; exact ⟨rret_none HB.out, hW⟩)); (have HB := Lib.hid (hno (by rw [hf]; simp [*])); clear hf hno; go_wp2_with fail; go_ret3; exact ⟨rret_none HB.out, hW⟩)); (have HB := Lib.hid (hno (by rw [hf]; simp [*])); clear hf hno; go_wp2_with fail; go_ret3; exact ⟨rret_none HB.out, hW⟩)
            · cases r4 : decide (t.mx < t.mn)
              · cases r5 : decide (255 < t.mx)
                · cases k0 : (x.kind == 0); (cases k7 : (x.kind == 7); (cases k8 : (x.kind == 8); (cases k2 : (x.kind == 2); (cases k3 : (x.kind == 3); (have HB := Lib.hid (show nfit d o c = true by rw [hf]; simp [*]); clear hf hno; go_wp2_with fail; go_meet; exact ⟨by rw [Hi.out], HB.out, hB⟩); (have HB := Lib.hid (hno (by rw [hf]; simp [*])); clear hf hno; go_wp2_with fail; go_ret3; exact ⟨rret_none HB.out, hW⟩)); (have HB := Lib.hid (hno (by rw [hf]; simp [*])); clear hf hno; go_wp2_with fail; go_ret3; exact ⟨rret_none HB.out, hW⟩)); (have HB := Lib.hid (hno (by rw [hf]; simp [*])); clear hf hno; go_wp2_with fail; go_ret3; exact ⟨rret_none HB.out, hW⟩)); (have HB := Lib.hid (hno (by rw [hf]; simp [*])); clear hf hno; go_wp2_with fail; go_ret3; exact ⟨rret_none HB.out, hW⟩)); (have HB := Lib.hid (hno (by rw [hf]; simp [*])); clear hf hno; go_wp2_with fail; go_ret3; exact ⟨rret_none HB.out, hW⟩)
                · (have HB := Lib.hid (hno (by rw [hf]; simp [*])); clear hf hno; go_wp2_with fail; go_ret3; exact ⟨rret_none HB.out, hW⟩)
              · (have HB := Lib.hid (hno (by rw [hf]; simp [*])); clear hf hno; go_wp2_with fail; go_ret3; exact ⟨rret_none HB.out, hW⟩)
          · (have HB := Lib.hid (hno (by rw [hf]; simp [*])); clear hf hno; go_wp2_with fail; go_ret3; exact ⟨rret_none HB.out, hW⟩)
        · (have HB := Lib.hid (hno (by rw [hf]; simp [*])); clear hf hno; go_wp2_with fail; go_ret3; exact ⟨rret_none HB.out, hW⟩)
      · have Hf := Lib.hid (hH.f5 hk)
        have Hi := Lib.hid (show (if t.kind = 5 then o + 1 else o) = o + 1 from if_pos hk)
        have e2 : (t.kind == 2) = false := by simp; omega
        have e3 : (t.kind == 3) = false := by simp; omega
        have e4 : (t.kind == 4) = false := by simp; omega
        have e5 : (t.kind == 5) = true := by simp [hk]
        have t8 := (hT.cell 8).trans rfl
        have Wn : IntKind.i64.wrap (o + 1) = o + 1 := IntWalk.i64_in _ (by omega)
        have hno := hH.no
        clear hk
        by_cases hq : t.num = o + 1
        · have q : (t.num != o + 1) = false := by simp [hq]
          have HB := Lib.hid (show nfit d o c = true by rw [Hf.out]; exact decide_eq_true hq)
          clear hq
          go_wp2_with fail
          go_meet
          exact ⟨by rw [Hi.out], HB.out, Below.refl _ _⟩
        · have q : (t.num != o + 1) = true := by simp [hq]
          have HB := Lib.hid (hno (by rw [Hf.out]; exact decide_eq_false hq))
          clear hq
          go_wp2_with fail
          go_ret3
          exact ⟨rret_none HB.out, hW⟩
      · have Hf := Lib.hid (hH.f6 hk)
        have Hi := Lib.hid (show (if t.kind = 5 then o + 1 else o) = o from if_neg (by omega))
        have e2 : (t.kind == 2) = false := by simp; omega
        have e3 : (t.kind == 3) = false := by simp; omega
        have e4 : (t.kind == 4) = false := by simp; omega
        have e5 : (t.kind == 5) = false := by simp; omega
        have e6 : (t.kind == 6) = true := by simp [hk]
        have hno := hH.no
        have HC := Lib.hid hc.2.2
        have hcm := hc.2.1
        unfold maxLen at hcm
        have hcl := hc.1
        clear hk hc HR
        go_wp2_with fail
        go_loopw [12, 124] (fun f i wr => ∃ k : Nat, k ≤ c.length ∧ i = .int .i64 k ∧ f = .bool ((c.take k).contains t.num) ∧ Below w1.heap.size w1 wr) (fun _ i _ => c.length - (intOf i).toNat)
        case atStart => exact ⟨0, by omega, rfl, rfl, Below.refl _ _⟩
        case round =>
          obtain ⟨k, hk', rfl, rfl, hV⟩ := hrel
          have hT2 := hT.below hV hlT
          have t8 := (hT2.cell 8).trans rfl
          by_cases hlt : k < c.length
          · obtain ⟨b, o', rfl, hbl, hx⟩ := HC.out (by omega)
            have c0 := (hV.cell (p := ⟨b, _, none⟩) hbl).trans (hx k hlt)
            have Htk := Lib.hid (contains_take c t.num k hlt)
            have Hmem := Lib.hid hlt
            clear hx hT2
            generalize c[k] = x at *
            cases F : (c.take k).contains t.num
            · cases q : (x == t.num)
              all_goals
                have Hn := Lib.hid (Htk.out.trans (by rw [F, q]))
                have hlt9 : decide (k < c.length) = true := decide_eq_true Hmem.out
                clear F
                go_wp2_with fail
                go_quiet (fail)
                go_wp2_with fail
                go_roundw
                case rel => exact ⟨k + 1, by omega, by go_num, by rw [Hn.out]; rfl, below_drewN hV _⟩
                case measure => simp [intOf]; omega
            · have Hn := Lib.hid (Htk.out.trans (by rw [F, Bool.true_or]))
              clear F
              go_wp2_with fail
              go_quiet (fail)
              go_wp2_with fail
              go_roundw
              case rel => exact ⟨k + 1, by omega, by go_num, by rw [Hn.out], below_drewN hV _⟩
              case measure => simp [intOf]; omega
          · obtain rfl : k = c.length := by omega
            have htk : c.take c.length = c := List.take_of_length_le (Nat.le_refl _)
            rw [htk]
            clear htk
            cases F : c.contains t.num
            · have HB := Lib.hid (hno (by rw [Hf.out, F]))
              clear F
              go_wp2_with fail
              go_ret3
              exact ⟨rret_none HB.out, hW.trans (hV.mono hW.size)⟩
            · have HB := Lib.hid (show nfit d o c = true by rw [Hf.out, F])
              clear F
              go_wp2_with fail
              go_meet
              exact ⟨by rw [Hi.out], HB.out, hV⟩
    case rest =>
      obtain ⟨rfl, hfit, hV0⟩ := hcut
      have HY := Lib.hid (hH.yes hfit)
      have HN := Lib.hid hH.kn
      have HG := Lib.hid hH.cnt
      clear hH hfit t0
      have hoo : 0 ≤ (if t.kind = 5 then o + 1 else o) ∧ (if t.kind = 5 then o + 1 else o) + ngroupss (l.map canon) ≤ 4000000 := by
        have := HG.out
        split at this <;> (rename_i h5; simp only [h5, if_true, if_false]; omega)
      have hcc : c.length + ngroupss (l.map canon) + (if t.kind = 5 then 1 else 0) ≤ 4000000 := by have := HG.out; omega
      clear hob hcb ho
      have HI : Hid (∀ r : Int × List Int, nrights (l.map canon) (if t.kind = 5 then o + 1 else o) c = some r → R = some (if t.kind = 5 then (r.1, r.2 ++ [t.num]) else r)) := Lib.hid (fun r hr => by rw [HY.out, hr]; rfl)
      have HI0 : Hid (nrights (l.map canon) (if t.kind = 5 then o + 1 else o) c = none → R = none) := Lib.hid (fun hr => by rw [HY.out, hr]; rfl)
      generalize (if t.kind = 5 then o + 1 else o) = o1 at *
      clear HY HG
      replace hT := hT.below hV0 hlT
      have hlT2 := hT.lt
      replace hW := hW.trans (hV0.mono hW.size)
      replace hc := hc.below hV0
      have hrow : ∀ wr, Below wc.heap.size wc wr → ∀ k (hk : k < l.length), ∃ b o, a1 = some ⟨b, o, none⟩ ∧ ∃ a' cap', Cl9 wr b (o + k * 9) l[k] a' cap' ∧ TrD N wr l[k] a' cap' := by
        intro wr hV k hk
        obtain ⟨b, o, rfl, hbl, hx⟩ := HR.out (by omega)
        obtain ⟨a', cap', h9, hr⟩ := hx k hk
        have hb0 := hV0.trans (hV.mono hV0.size)
        exact ⟨b, o, rfl, a', cap', h9.below hb0 hbl, hr.below hb0⟩
      have Hrow := Lib.hid hrow
      clear hrow HR hV0
      go_wp2_with fail
      go_loopw [1, 2, 142] (fun u1 u2 i wr => ∃ (k : Nat) (q : Int × List Int) (ca' : Option Addr) (cc' : Nat), k ≤ l.length ∧ i = .int .i64 k ∧ u1 = .int .i64 q.1 ∧ u2 = .slice ca' q.2.length cc' ∧ nrights ((l.map canon).take k) o1 c = some q ∧ IntsAt wr q.2 ca' cc' ∧ Below wc.heap.size wc wr) (fun _ _ i _ => l.length - (intOf i).toNat)
      case atStart => exact ⟨0, (o1, c), ca, cc, by omega, rfl, rfl, rfl, rfl, hc, Below.refl _ _⟩
      case round =>
        obtain ⟨k, q, ca', cc', hk, rfl, rfl, rfl, hq, hc', hV⟩ := hrel
        clear hc
        obtain ⟨hq1, hq2⟩ := nrights_count _ _ _ _ hq
        have hle := ngroupss_le (l.map canon) k
        have Hq := Lib.hid hq
        clear hq
        by_cases hlt : k < l.length
        · obtain ⟨b, o', rfl, a', cap', h9, hr⟩ := Hrow.out wr hV k hlt
          have hsn := ngroupss_take (l.map canon) k (by simpa using hlt)
          have hle2 := ngroupss_le (l.map canon) (k + 1)
          have Htk := Lib.hid (nrights_take (l.map canon) k (by simpa using hlt) o1 c)
          have Hno := Lib.hid (nrights_no (l.map canon) (k + 1) o1 c)
          have hkx := HN.out k hlt
          simp only [List.getElem_map] at Htk hsn
          obtain ⟨c0, c1, c2, c3, c4, c5, c6, c7, c8⟩ := h9
          generalize l[k] = x at *
          have hI := ih x a' cap' q.1 q.2 ca' cc' _ hr hkx hc' (by omega) (by omega) (by split at hcc <;> omega)
          rw [Hq.out] at Htk
          have Htk2 : Hid (nrights ((l.map canon).take (k + 1)) o1 c = nright (canon x) q.1 q.2) := Lib.hid Htk.out
          clear Htk hq1 hq2 hle hle2 hsn hkx
          unfold tV at hI
          cases hr2 : nright (canon x) q.1 q.2 with
          | none =>
            rw [hr2] at hI
            have Hn := Lib.hid (HI0.out (Hno.out (Htk2.out.trans hr2)))
            clear hr2
            go_wp2_with fail
            refine hI.mono ?_
            rintro e w2 ⟨he, b2⟩
            replace he : e = _ := he
            subst he
            replace hV := hV.trans (b2.mono hV.size)
            clear b2 hr c0 c1 c2 c3 c4 c5 c6 c7 c8 hc' hI
            go_wp2_with fail
            go_ret3
            exact ⟨rret_none Hn.out, hW.trans (hV.mono hW.size)⟩
          | some q' =>
            rw [hr2] at hI
            have Hn := Lib.hid (Htk2.out.trans hr2)
            clear hr2
            go_wp2_with fail
            refine hI.mono ?_
            rintro e w2 ⟨he, b2⟩
            obtain ⟨a9, cap9, rfl, h9⟩ := he
            replace hV := hV.trans (b2.mono hV.size)
            clear b2 hr c0 c1 c2 c3 c4 c5 c6 c7 c8 hc' hI
            go_wp2_with fail
            go_roundw
            case rel => exact ⟨k + 1, q', a9, cap9, by omega, by go_num, rfl, rfl, Hn.out, h9, hV⟩
            case measure => simp [intOf]; omega
        · obtain rfl : k = l.length := by omega
          have Hr := Lib.hid (HI.out q (by have := Hq.out; rw [List.take_of_length_le (by simp)] at this; exact this))
          have hT2 := hT.below hV hlT2
          have t0 := (hT2.cell 0).trans rfl
          have t8 := (hT2.cell 8).trans rfl
          have hqb : q.2.length + (if t.kind = 5 then 1 else 0) ≤ 4000000 := by omega
          clear HI HI0 Hq Hrow HN hq1 hq2 hle hoo hcc ih
          by_cases h5 : t.kind = 5
          · rw [if_pos h5] at Hr hqb
            have e5 : (t.kind == 5) = true := by simp [h5]
            clear h5
            go_upto_region 40 with fail
            obtain ⟨i0, hi, hz0, hz1, hz2⟩ := int_info
            have hmm : q.2.length + 1 ≤ 4000000 := by simpa using hqb
            have hm1 : 0 + q.2.length + 1 ≤ maxLen := by unfold maxLen; omega
            have hm2 : (0 + q.2.length + 1) * 8 ≤ 140737488355328 := by omega
            have hm3 : 0 + q.2.length ≤ maxLen := by unfold maxLen; omega
            have hm4 : (0 + q.2.length) * 8 ≤ 140737488355328 := by omega
            have e0 : w.heap.size < wr.heap.size := Nat.lt_of_lt_of_le hlT2 hV.size
            have HT := Lib.hid hT2
            have HWV := Lib.hid (hW.trans (hV.mono hW.size))
            have hA : ∀ u ∈ q.2.map (Value.int .i64), u.oneCell' = true := by intro u hu; simp at hu; obtain ⟨_, _, rfl⟩ := hu; rfl
            have HA := Lib.hid hA
            clear hT hT2 hW hV hqb hl1 hl2 t0 hA hk hlt hlT hlT2
            go_region_law (first
              | (refine step_append_any rfl _ _ 92 rfl wr.heap.size 3 i0 (.int .i64 0) 1 8 Try.underlying92 hi hz0 hz1 hz2 rfl (by decide) (.slice (some ⟨wr.heap.size, 0, none⟩) 0 0) 0 [] rfl (nd_own_below (own_e0 wr) (by repeat (first | (with_reducible exact Below.refl _ _) | refine Below.drew ?_ | refine Below.alloc ?_ (by first | omega | (simp; omega) | simp) _))) ca' q.2.length cc' (q.2.map (Value.int .i64)) rfl (by simp) (hc'.below (by repeat (first | (with_reducible exact Below.refl _ _) | refine Below.drew ?_ | refine Below.alloc ?_ (by first | omega | (simp; omega) | simp) _))).news HA.out hm3 hm4 (by simp <;> omega) ?_; intro v5 w5 hown5 hgrow5 hat5; have hb5 : Below wr.heap.size wr w5 := Below.grown (w := _) (by repeat (first | (with_reducible exact Below.refl _ _) | refine Below.drew ?_ | refine Below.alloc ?_ (by first | omega | (simp; omega) | simp) _)) hgrow5 (by simp <;> omega) (fun k hk => by simp [Value.ownBlock] at hk; omega); have c8 : w5.cell? ⟨w.heap.size, 8, none⟩ = some (.int .i64 t.num) := (hb5.cell (p := ⟨w.heap.size, 8, none⟩) e0).trans ((HT.out.cell 8).trans rfl); (try have cN : w5.cell? ⟨wr.heap.size + 1, 0, none⟩ = some (.int .i64 t.num) := (hgrow5.cell_far ⟨wr.heap.size + 1, 0, none⟩ (by simp) (by simp [Value.ownBlock])).trans (cell_n1 wr t.num)); (try have cM : w5.cell? ⟨wr.heap.size, 0, none⟩ = some (.int .i64 t.num) := (hgrow5.cell_far ⟨wr.heap.size, 0, none⟩ (by simp <;> omega) (by simp [Value.ownBlock])).trans (cell_n0 wr t.num)); clear hgrow5 hat5)
              | (refine step_append_any rfl _ _ 92 rfl wr.heap.size 3 i0 (.int .i64 0) 1 8 Try.underlying92 hi hz0 hz1 hz2 rfl (by decide) (.slice (some ⟨wr.heap.size + 1, 0, none⟩) 0 0) 0 [] rfl (nd_own_below (own_e1 wr t.num) (by repeat (first | (with_reducible exact Below.refl _ _) | refine Below.drew ?_ | refine Below.alloc ?_ (by first | omega | (simp; omega) | simp) _))) ca' q.2.length cc' (q.2.map (Value.int .i64)) rfl (by simp) (hc'.below (by repeat (first | (with_reducible exact Below.refl _ _) | refine Below.drew ?_ | refine Below.alloc ?_ (by first | omega | (simp; omega) | simp) _))).news HA.out hm3 hm4 (by simp <;> omega) ?_; intro v5 w5 hown5 hgrow5 hat5; have hb5 : Below wr.heap.size wr w5 := Below.grown (w := _) (by repeat (first | (with_reducible exact Below.refl _ _) | refine Below.drew ?_ | refine Below.alloc ?_ (by first | omega | (simp; omega) | simp) _)) hgrow5 (by simp <;> omega) (fun k hk => by simp [Value.ownBlock] at hk; omega); have c8 : w5.cell? ⟨w.heap.size, 8, none⟩ = some (.int .i64 t.num) := (hb5.cell (p := ⟨w.heap.size, 8, none⟩) e0).trans ((HT.out.cell 8).trans rfl); (try have cN : w5.cell? ⟨wr.heap.size + 1, 0, none⟩ = some (.int .i64 t.num) := (hgrow5.cell_far ⟨wr.heap.size + 1, 0, none⟩ (by simp) (by simp [Value.ownBlock])).trans (cell_n1 wr t.num)); (try have cM : w5.cell? ⟨wr.heap.size, 0, none⟩ = some (.int .i64 t.num) := (hgrow5.cell_far ⟨wr.heap.size, 0, none⟩ (by simp <;> omega) (by simp [Value.ownBlock])).trans (cell_n0 wr t.num)); clear hgrow5 hat5)
              | (refine step_append_any rfl _ _ 92 rfl wr.heap.size 3 i0 (.int .i64 0) 1 8 Try.underlying92 hi hz0 hz1 hz2 rfl (by decide) v5 (0 + q.2.length) ([] ++ q.2.map (Value.int .i64)) rfl (nd_own_below hown5 (by repeat (first | (with_reducible exact Below.refl _ _) | refine Below.drew ?_ | refine Below.alloc ?_ (by first | omega | (simp; omega) | simp) _))) (some ⟨_, 0, none⟩) 1 1 [.int .i64 t.num] rfl rfl (fun _ => ⟨_, rfl, one_news (by first | exact cN | exact cM | simp)⟩) (by simp [Value.oneCell']) hm1 hm2 (by have := hb5.size; simp; omega) ?_; intro v6 w6 hown6 hgrow6 hat6; have hb6 : Below wr.heap.size wr w6 := Below.grown (w := _) (hb5.trans (Below.mono (by repeat (first | (with_reducible exact Below.refl _ _) | refine Below.drew ?_ | refine Below.alloc ?_ (by first | omega | (simp; omega) | simp) _)) hb5.size)) hgrow6 (by have := hb5.size; simp; omega) (fun k hk => own_of hown5 k hk); clear hgrow6 hat6))
            all_goals go_wp2_with fail
            all_goals go_ret3
            all_goals obtain ⟨a6, cap6, rfl, h6⟩ := ints_own (c := q.2 ++ [t.num]) (by simpa using hown6) (by simp)
            all_goals exact ⟨by rw [Hr.out]; exact ⟨a6, cap6, rfl, h6⟩, HWV.out.trans (hb6.mono HWV.out.size)⟩
          · rw [if_neg h5] at Hr
            have e5 : (t.kind == 5) = false := by simp [h5]
            clear h5 hqb
            go_wp2_with fail
            go_ret3
            exact ⟨by rw [Hr.out]; exact ⟨ca', cc', rfl, hc'⟩, hW.trans (hV.mono hW.size)⟩
end Go.Proofs.Ytihfenkphhnbcaa
namespace Go.Proofs.Ytihfenkphhnbcaa
open Go.RowKit
set_option linter.unusedSimpArgs false in
set_option maxRecDepth 100000 in
set_option maxHeartbeats 1000000 in
theorem lfew_any (n : Nat) (t : Tr) (a : Option Addr) (cap : Nat) (most : Nat) (w : World) (h : TrAt n w t a cap) (hb : tall t ≤ 4000000) :
    Calls Try.prog 8 #[tV t a cap, .int .i64 (most : Int)] w fun e w' => e = .returned (.bool (decide (tall t ≤ most) && tknown t)) ∧ Below w.heap.size w w' := by
  have hT := (Blk.new w (tC t a cap) 27 _ rfl)
  have hW := (Below.refl w.heap.size w).alloc (Nat.le_refl _) (.cells (tC t a cap) 27)
  have hS := lsize_any n t a cap _ (TrAt.below hW _ _ _ _ h) hb
  have hKn := fun w' (hb : Below w.heap.size w w') => lknown_any n t a cap w' (TrAt.below hb _ _ _ _ h)
  unfold tV at hS hKn ⊢
  clear h
  go_enter Try.func8, Try.ntmps8
  go_wp2_with fail
  refine hS.mono ?_
  clear hS
  rintro e w1 ⟨rfl, b1⟩
  replace hW := hW.trans (b1.mono hW.size)
  replace hT := hT.below b1 hT.lt
  clear b1
  have q0 := (hT.cell 0).trans rfl
  have q1 := (hT.cell 1).trans rfl
  have q2 := (hT.cell 2).trans rfl
  have q3 := (hT.cell 3).trans rfl
  have q4 := (hT.cell 4).trans rfl
  have q5 := (hT.cell 5).trans rfl
  have q6 := (hT.cell 6).trans rfl
  have q7 := (hT.cell 7).trans rfl
  have q8 := (hT.cell 8).trans rfl
  by_cases hm : tall t ≤ most
  · have e1 : decide ((tall t : Int) ≤ (most : Int)) = true := decide_eq_true (by omega)
    have e2 : decide (tall t ≤ most) = true := decide_eq_true hm
    have He := Lib.hid e2
    clear hm hb
    go_wp2_with fail
    refine (hKn _ hW).mono ?_
    rintro e w2 ⟨rfl, b2⟩
    replace hW := hW.trans (b2.mono hW.size)
    go_wp2_with fail
    go_ret
    exact ⟨tr_ret_bool (by rw [He.out, Bool.true_and]), hW⟩
  · have e1 : decide ((tall t : Int) ≤ (most : Int)) = false := decide_eq_false (by omega)
    have e2 : decide (tall t ≤ most) = false := decide_eq_false hm
    have He := Lib.hid e2
    clear hm hb
    go_wp2_with fail
    go_ret
    exact ⟨tr_ret_bool (by rw [He.out]; rfl), hW⟩
end Go.Proofs.Ytihfenkphhnbcaa
