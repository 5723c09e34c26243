/- EgL: The statement EreGroups, walked, from what ere.Parse answers (EParses).
   EgR: The statement EreGroups, walked. -/
import Derived.Test.YtacpoandhocmhaaDoorCmn
import Derived.Test.YtacpoandhocmhaaDoorEqP
import Derived.Test.YtacpoandhocmhaaDoorGrTL
import Derived.Test.YtacpoandhocmhaaDoorEmST
namespace Go.Proofs.YtacpoandhocmhaaDoor
open Go Go.RowKit Go.Shelf

theorem whole_right {ere : Bool} {s : List UInt8} {st : ReSt} {d : Nd} (h : parseM ere s = .ok (st, d)) : ∃ r, nright d 0 [] = some r := ⟨_, (whole_opened h).1⟩
theorem cpart_some {d : Nd} (h : ∃ r, nright d 0 [] = some r) : cpart d ≠ [] := by
  obtain ⟨r, h⟩ := h
  cases d with
  | alt l =>
    intro he
    rw [nright] at h
    have hl : l = [] := he
    subst hl
    simp at h
  | _ => simp [cpart]
theorem choose_alt (d e : Nd) (hd : cpart d ≠ []) (he : cpart e ≠ []) : ∃ l, 2 ≤ l.length ∧ nchoose [d, e] = .alt l := by
  unfold nchoose
  rw [cflat_two]
  cases h1 : cpart d with
  | nil => exact (hd h1).elim
  | cons x xs =>
    cases h2 : cpart e with
    | nil => exact (he h2).elim
    | cons y ys =>
      refine ⟨x :: xs ++ y :: ys, by simp; omega, ?_⟩
      cases xs with
      | nil => rfl
      | cons z zs => rfl
theorem eparse_long (hP : EParses) (s : ByteArray) (w : World) (hG : Gl w) (st : ReSt) (a : Nd) (h : parseM true s.data.toList = .ok (st, a)) :
    Calls Tryd.prog 6 #[.string s] w fun e w' => ∃ v ma mc, e = .returned (.tuple #[v, .slice ma st.marks.length mc, .int .i64 0, .int .i64 0]) ∧ NdX (fun k => k < w'.heap.size) w' a v ∧ Below w.heap.size w w' ∧ st.marks.length ≤ 250 ∧
      (∀ k, k < st.marks.length → ∃ g, ma = some ⟨g, 0, none⟩ ∧ w'.cell? ⟨g, 0 + k * 2, none⟩ = some (.int .i64 ((st.marks.getD k (0, 0)).1 : Int)) ∧ g < w'.heap.size) := by
  refine (hP s w hG).mono ?_
  rw [h]
  rintro e w' ⟨hb, v, mv, rfl, hn, hm⟩
  obtain ⟨ma, mc, rfl, _, hk⟩ := marks_form hm
  exact ⟨v, ma, mc, rfl, ndx_in hn, hb, Nat.le_trans (whole_mks h) (whole_in h).1, hk⟩
theorem eparse_bad (hP : EParses) (s : ByteArray) (w : World) (hG : Gl w) (q : Nat × Nat) (h : parseM true s.data.toList = .error q) :
    Calls Tryd.prog 6 #[.string s] w fun e w' => e = .returned (.tuple #[.nilIface, .slice none 0 0, .int .i64 (q.2 : Int), .int .i64 (q.1 : Int)]) ∧ Below w.heap.size w w' := by
  refine (hP s w hG).mono ?_
  rw [h]
  rintro e w' ⟨hb, rfl⟩
  exact ⟨rfl, hb⟩
set_option linter.unusedSimpArgs false in
set_option maxRecDepth 100000 in
set_option maxHeartbeats 4000000 in
theorem egroups_law (hP : EParses) (s t : ByteArray) (w : World) (hG : Gl w) (hs : s.size ≤ 100) (ht : t.size ≤ 100) :
    Calls Tryd.prog 4 #[.string s, .string t] w fun e w' => e = .returned (.bool true) ∧ Below w.heap.size w w' := by
  have haw := awake5_any hP w hG
  have HG := Lib.hid hG
  have e1 : decide ((100 : Int) < (s.size : Int)) = false := by first | (simp; done) | (simp; omega)
  have e2 : decide (100 < s.size) = false := by simp; omega
  have e3 : decide ((100 : Int) < (t.size : Int)) = false := by first | (simp; done) | (simp; omega)
  have e4 : decide (100 < t.size) = false := by simp; omega
  go_enter Tryd.func4, Tryd.ntmps4
  go_wp2_with fail
  refine haw.mono ?_
  rintro e w1 ⟨rfl, hW⟩
  clear haw hG
  cases hA : parseM true s.data.toList with
  | error q =>
    have hpa := eparse_bad hP s w1 (HG.out.up hW) q hA
    have hne := whole_err hA
    have hq0 : ((q.1 : Int) != 0) = true := by simp; omega
    have hq1 : ((q.1 : Int) == 0) = false := by rw [beq_eq_false_iff_ne]; omega
    generalize q.1 = q1 at *
    generalize q.2 = q2 at *
    clear hne
    go_wp2_with fail
    refine hpa.mono ?_
    rintro e w2 ⟨rfl, b2⟩
    have hW2 := hW.trans (b2.mono hW.size)
    have hpb := hP t w2 (HG.out.up hW2)
    clear hpa b2 hA
    go_wp2_with fail
    refine hpb.mono ?_
    rintro e w3 ⟨b3, hx⟩
    have hW3 := hW2.trans (b3.mono hW2.size)
    obtain ⟨v, mv, x, y, rfl⟩ : ∃ v mv x y, e = .returned (.tuple #[v, mv, .int .i64 x, .int .i64 y]) := by
      cases hB : parseM true t.data.toList with
      | error q => rw [hB] at hx; exact ⟨_, _, _, _, hx⟩
      | ok q => rw [hB] at hx; obtain ⟨v, mv, h, _⟩ := hx; exact ⟨_, _, _, _, h⟩
    clear hx hpb b3
    go_wp2_with fail
    go_ret
    exact ⟨rfl, hW3⟩
  | ok q =>
    obtain ⟨st, a⟩ := q
    have hpa := eparse_long hP s w1 (HG.out.up hW) st a hA
    go_wp2_with fail
    refine hpa.mono ?_
    rintro e w2 ⟨va, ma, mc, rfl, hna, b2, hma, _⟩
    have hW2 := hW.trans (b2.mono hW.size)
    clear hpa b2 hW
    cases hB : parseM true t.data.toList with
    | error q =>
      have hpb := eparse_bad hP t w2 (HG.out.up hW2) q hB
      have hne := whole_err hB
      have hq0 : ((q.1 : Int) != 0) = true := by simp; omega
      have hq1 : ((q.1 : Int) == 0) = false := by rw [beq_eq_false_iff_ne]; omega
      generalize q.1 = q1 at *
      generalize q.2 = q2 at *
      clear hne hB hA hna
      go_wp2_with fail
      refine hpb.mono ?_
      rintro e w3 ⟨rfl, b3⟩
      have hW3 := hW2.trans (b3.mono hW2.size)
      clear hpb b3
      go_wp2_with fail
      go_ret
      exact ⟨rfl, hW3⟩
    | ok q =>
      obtain ⟨st2, b⟩ := q
      have hpb := eparse_long hP t w2 (HG.out.up hW2) st2 b hB
      have HA := Lib.hid hA
      have HB := Lib.hid hB
      have HNA := Lib.hid hna
      clear hA hB hna
      go_wp2_with fail
      refine hpb.mono ?_
      rintro e w3 ⟨vb, mb, mbc, rfl, hnb, b3, hmb, _⟩
      have HMA := Lib.hid hma
      have HMB := Lib.hid hmb
      clear hma hmb
      have hW3 := hW2.trans (b3.mono hW2.size)
      have hna := ndx_in (HNA.out.below b3)
      have hsa := whole_size HA.out
      have hsb := whole_size HB.out
      have hba := pbacks_any a va w3 hna (by omega)
      have HNA := Lib.hid hna
      have HNB := Lib.hid hnb
      have HSA := Lib.hid hsa
      have HSB := Lib.hid hsb
      clear hpb b3 hna hnb hsa hsb hW2
      cases hbk : nbacks a with
      | true =>
        rw [hbk] at hba
        clear hbk
        go_wp2_with fail
        refine hba.mono ?_
        rintro e w4 ⟨rfl, b4⟩
        have hW4 := hW3.trans (b4.mono hW3.size)
        clear hba b4
        go_wp2_with fail
        go_ret
        exact ⟨rfl, hW4⟩
      | false =>
        rw [hbk] at hba
        have HBA := Lib.hid hbk
        clear hbk
        go_wp2_with fail
        refine hba.mono ?_
        rintro e w4 ⟨rfl, b4⟩
        have hW4 := hW3.trans (b4.mono hW3.size)
        have HNA := Lib.hid (ndx_in (HNA.out.below b4))
        have hnb := ndx_in (HNB.out.below b4)
        have hbb := pbacks_any b vb w4 hnb (by have := HSB.out; omega)
        have HNB := Lib.hid hnb
        clear hba b4 hW3 hnb
        cases hbk : nbacks b with
        | true =>
          rw [hbk] at hbb
          clear hbk
          go_wp2_with fail
          refine hbb.mono ?_
          rintro e w5 ⟨rfl, b5⟩
          have hW5 := hW4.trans (b5.mono hW4.size)
          clear hbb b5
          go_wp2_with fail
          go_ret
          exact ⟨rfl, hW5⟩
        | false =>
          rw [hbk] at hbb
          have HBB := Lib.hid hbk
          clear hbk
          go_wp2_with fail
          refine hbb.mono ?_
          rintro e w5 ⟨rfl, b5⟩
          have hW5 := hW4.trans (b5.mono hW4.size)
          have HNA := Lib.hid (ndx_in (HNA.out.below b5))
          have HNB := Lib.hid (ndx_in (HNB.out.below b5))
          have hdp := pdeep_any a va w5 HNA.out (by have := HSA.out; omega)
          clear hbb b5 hW4
          go_upto_if 68 with (go_at_call 10; refine hdp.mono ?_; rintro e w6 ⟨rfl, b6⟩)
          have hW6 := hW5.trans (b6.mono hW5.size)
          have HNA := Lib.hid (ndx_in (HNA.out.below b6))
          have HNB := Lib.hid (ndx_in (HNB.out.below b6))
          clear hdp b6 hW5
          go_cut [] (fun wx => Below w6.heap.size w6 wx)
          case first =>
            by_cases hD : 12 ≤ ndeep a
            · have e5 : decide ((ndeep a : Int) < 12) = false := decide_eq_false (by omega)
              have e6 : decide (ndeep a < 12) = false := decide_eq_false (by omega)
              have e7 : ¬ ((ndeep a : Int) < 12) := by omega
              have e8 : 12 ≤ (ndeep a : Int) := by omega
              clear hD
              go_wp2_with fail
              go_meet
              exact Below.refl _ _
            · have e5 : decide ((ndeep a : Int) < 12) = true := decide_eq_true (by omega)
              have e6 : decide (ndeep a < 12) = true := decide_eq_true (by omega)
              replace hD : ndeep a < 12 := by omega
              have e7 : ((ndeep a : Int) < 12) := by omega
              have e8 : ¬ 12 ≤ (ndeep a : Int) := by omega
              obtain ⟨st3, hgp, hgm⟩ := parse_group HA.out HBA.out hD (by simp; omega)
              have HDL : ((⟨#[40]⟩ : ByteArray) ++ s ++ ⟨#[41]⟩).data.toList = sgn true 40 ++ (s.data.toList ++ sgn true 41) := by simp [ByteArray.data_append, sgn]
              rw [← HDL] at hgp
              have HGP := Lib.hid hgp
              have HGM := Lib.hid hgm
              have hsl : s.size ≤ 100 := hs
              have hpg := eparse_long hP _ w6 (HG.out.up hW6) st3 _ HGP.out
              clear hD hgp hgm HDL
              go_wp2_with fail
              refine hpg.mono ?_
              rintro e w7 ⟨vg, mg, mgc, rfl, hng, b7, _, _⟩
              obtain ⟨u, rfl, hu⟩ : ∃ u, vg = .iface 36 (.agg #[.int .i64 1, u]) ∧ NdX (fun k => k < w7.heap.size) w7 (nturn 1 a) u := by
                rcases nd_kinds hng with ⟨h, _⟩ | ⟨_, h, _⟩ | ⟨_, _, _, h, _⟩ | ⟨_, _, _, h, _⟩ | ⟨_, _, _, _, h, _⟩ | ⟨num, d', u, h, hv, hu⟩ | ⟨_, h, _⟩ | ⟨h, _⟩ | ⟨h, _⟩ <;> try (cases h; done)
                injection h with h1 h2
                subst h1 h2
                exact ⟨u, hv, hu⟩
              have hml : ((st3.marks.length : Int) != (st.marks.length : Int)) = false := by rw [HGM.out]; simp
              have hb67 := b7
              have hA7 := (Below.refl w7.heap.size w7).alloc (Nat.le_refl _) (.cells #[.int .i64 1, u] 36)
              have hBk := Blk.new w7 #[.int .i64 1, u] 36 w7.heap.size rfl
              have hc0 := (hBk.cell 0).trans rfl
              have hc1 := (hBk.cell 1).trans rfl
              have huA := ndx_in (hu.below hA7)
              have hb8 := hb67.trans (hA7.mono hb67.size)
              have hg1 := pgroups_any _ u _ huA (by rw [(nturn_size 1 a).1]; have := HSA.out; omega)
              have hz1 := fun w' (hb : Below (w7.alloc (.cells #[.int .i64 1, u] 36)).heap.size (w7.alloc (.cells #[.int .i64 1, u] 36)) w') => psize_any _ u w' (ndx_in (huA.below hb)) (by rw [(nturn_size 1 a).1]; have := HSA.out; omega)
              rw [(nturn_size 1 a).2] at hg1
              rw [(nturn_size 1 a).1] at hz1
              have HZ1 := Lib.hid hz1
              have HB8 := Lib.hid hb8
              have HBK := Lib.hid hBk
              have hsh : (∃ T q, u = .iface T q) ∨ u = .nilIface := huA.elim fun _ h => nd_shape h
              clear hz1 hb8 hb67 hA7 huA hu hng b7 hpg hBk
              rcases hsh with ⟨T1, q1, rfl⟩ | rfl
              all_goals
                go_wp2_with fail
                refine hg1.mono ?_
                rintro e w8 ⟨rfl, b8⟩
                have h68 := HB8.out.trans (b8.mono HB8.out.size)
                have hg2 := pgroups_any a va w8 (ndx_in (HNA.out.below h68)) (by have := HSA.out; omega)
                have HBK8 := Lib.hid (HBK.out.below b8 HBK.out.lt)
                have Hb78 := Lib.hid b8
                have H68 := Lib.hid h68
                clear hg1 b8 h68 hc0 hc1
                go_wp2_with fail
                refine hg2.mono ?_
                rintro e w9 ⟨rfl, b9⟩
                have hBK9 := HBK8.out.below b9 HBK8.out.lt
                have hc1 := (hBK9.cell 1).trans rfl
                have h79 := Hb78.out.trans (b9.mono Hb78.out.size)
                have hz2 := HZ1.out w9 h79
                have H69 := Lib.hid (H68.out.trans (b9.mono H68.out.size))
                clear hg2 b9 hBK9 h79
                go_wp2_with fail
                refine hz2.mono ?_
                rintro e w10 ⟨rfl, b10⟩
                have h610 := H69.out.trans (b10.mono H69.out.size)
                have hz3 := psize_any a va w10 (ndx_in (HNA.out.below h610)) (by have := HSA.out; omega)
                have H610 := Lib.hid h610
                clear hz2 b10 h610 hc1
                go_wp2_with fail
                refine hz3.mono ?_
                rintro e w11 ⟨rfl, b11⟩
                have h611 := H610.out.trans (b11.mono H610.out.size)
                clear hz3 b11
                go_wp2_with fail
                go_meet
                exact h611
          case rest =>
            have hWc := hW6.trans (hcut.mono hW6.size)
            have HNA := Lib.hid (ndx_in (HNA.out.below hcut))
            have HNB := Lib.hid (ndx_in (HNB.out.below hcut))
            obtain ⟨st3, hgp, hgm⟩ := parse_bar HA.out HB.out HBA.out HBB.out (by simp; omega)
            have HDL : (s ++ (⟨#[124]⟩ : ByteArray) ++ t).data.toList = s.data.toList ++ (sgn true 124 ++ t.data.toList) := by simp [ByteArray.data_append, sgn]
            rw [← HDL] at hgp
            have HGP := Lib.hid hgp
            have hpg := eparse_long hP _ wc (HG.out.up hWc) st3 _ HGP.out
            have HGM := Lib.hid hgm
            clear hcut hgp hgm HDL
            go_wp2_with fail
            refine hpg.mono ?_
            rintro e w7 ⟨vg, mg, mgc, rfl, hng, b7, hmg, hmk⟩
            have hLn : st3.marks.length = st.marks.length + st2.marks.length := by rw [HGM.out]; simp
            have hra := whole_right HA.out
            have hrb := whole_right HB.out
            obtain ⟨l, hl2, hal⟩ := choose_alt a (nturn (ngroups a : Int) b) (cpart_some hra) (by rw [nturn_cpart]; intro h; exact cpart_some hrb (List.map_eq_nil_iff.1 h))
            have hgc : ngroups (nchoose [a, nturn (ngroups a : Int) b]) = ngroups a + ngroups b := by rw [(choose_two _ _).1, (nturn_size _ b).2]
            have hsc : nsize (nchoose [a, nturn (ngroups a : Int) b]) ≤ 4000000 := by
              have h1 := nsize_choose a (nturn (ngroups a : Int) b)
              rw [(nturn_size _ b).1] at h1
              have := HSA.out
              have := HSB.out
              omega
            rw [hal] at hng hgc hsc
            obtain ⟨la, lc, rfl⟩ := ndx_alt_form hng
            have hW7 := hWc.trans (b7.mono hWc.size)
            have hA7 := (Below.refl w7.heap.size w7).alloc (Nat.le_refl _) (.cells #[.slice la l.length lc] 40)
            have hW8 := hW7.trans (hA7.mono hW7.size)
            have hBk := Blk.new w7 #[.slice la l.length lc] 40 w7.heap.size rfl
            have HNA := Lib.hid (ndx_in ((HNA.out.below b7).below hA7))
            have HNB := Lib.hid (ndx_in ((HNB.out.below b7).below hA7))
            have hg1 := pgroups_any _ _ _ (ndx_in (hng.below hA7)) hsc
            rw [hgc] at hg1
            have hma := HMA.out
            have hmb := HMB.out
            have HLN := Lib.hid hLn
            have HL2 := Lib.hid hl2
            have HBK := Lib.hid hBk
            have HW8 := Lib.hid hW8
            generalize st.marks.length = ka at *
            generalize st2.marks.length = kb at *
            generalize st3.marks.length = kc at *
            have eP : (kc : Int) = (ka : Int) + (kb : Int) := by have := HLN.out; omega
            have eL : ((kc : Int) == (ka : Int) + (kb : Int)) = true := by rw [beq_iff_eq]; exact eP
            have hga2 : ngroups a ≤ 752 := Nat.le_trans (ngroups_size a) HSA.out
            have hgb2 : ngroups b ≤ 752 := Nat.le_trans (ngroups_size b) HSB.out
            have HGA := Lib.hid hga2
            have HGB := Lib.hid hgb2
            have hgmk := hmk
            clear hgmk hmk hpg b7 hWc hng hsc hgc hLn hra hrb hal hl2 hA7 hW7 hW8 hBk hga2 hgb2 hmg
            go_wp2_with fail
            refine hg1.mono ?_
            rintro e w8 ⟨rfl, b8⟩
            have HW9 := Lib.hid (HW8.out.trans (b8.mono HW8.out.size))
            have HNA := Lib.hid (ndx_in (HNA.out.below b8))
            have HNB := Lib.hid (ndx_in (HNB.out.below b8))
            have HBK := Lib.hid (HBK.out.below b8 HBK.out.lt)
            have hg2 := pgroups_any a va w8 HNA.out (by have := HSA.out; omega)
            clear hg1 b8
            go_wp2_with fail
            refine hg2.mono ?_
            rintro e w9 ⟨rfl, b9⟩
            have HW10 := Lib.hid (HW9.out.trans (b9.mono HW9.out.size))
            have HNB := Lib.hid (ndx_in (HNB.out.below b9))
            have HBK := Lib.hid (HBK.out.below b9 HBK.out.lt)
            have hg3 := pgroups_any b vb w9 HNB.out (by have := HSB.out; omega)
            have hga2 := HGA.out
            have hgb2 := HGB.out
            have eG : (((ngroups a + ngroups b : Nat) : Int) == (ngroups a : Int) + (ngroups b : Int)) = true := by rw [beq_iff_eq]; omega
            have eG2 : ((ngroups a + ngroups b : Nat) : Int) = (ngroups a : Int) + (ngroups b : Int) := by omega
            clear hg2 b9
            go_wp2_with fail
            refine hg3.mono ?_
            rintro e w10 ⟨rfl, b10⟩
            have hW11 := HW10.out.trans (b10.mono HW10.out.size)
            have hBK := HBK.out.below b10 HBK.out.lt
            have hc0 := (hBK.cell 0).trans rfl
            have hl2 := HL2.out
            have e7 : decide ((1 : Int) < (l.length : Int)) = true := decide_eq_true (by omega)
            have e8 : decide (1 < l.length) = true := decide_eq_true (by omega)
            have e9 : (1 : Int) < (l.length : Int) := by omega
            have HW11 := Lib.hid hW11
            clear hg3 b10 hBK hW11
            go_wp2_with fail
            go_ret
            exact ⟨rfl, HW11.out⟩
set_option linter.unusedSimpArgs false in
set_option maxRecDepth 100000 in
set_option maxHeartbeats 1000000 in
theorem egroups_long (hP : EParses) (s t : ByteArray) (w : World) (hG : Gl w) (h : 100 < s.size ∨ 100 < t.size) :
    Calls Tryd.prog 4 #[.string s, .string t] w fun e w' => e = .returned (.bool true) ∧ Below w.heap.size w w' := by
  have haw := awake5_any hP w hG
  by_cases hs : 100 < s.size
  · have e1 : decide ((100 : Int) < (s.size : Int)) = true := by first | (simp; done) | (simp; omega)
    have e2 : decide (100 < s.size) = true := decide_eq_true hs
    clear h
    go_enter Tryd.func4, Tryd.ntmps4
    go_wp2_with fail
    refine haw.mono ?_
    rintro e w1 ⟨rfl, hW⟩
    have haw2 := awake5_any hP w1 (hG.up hW)
    clear haw hG
    go_wp2_with fail
    refine haw2.mono ?_
    rintro e w2 ⟨rfl, b2⟩
    have hW2 := hW.trans (b2.mono hW.size)
    clear haw2 b2
    go_wp2_with fail
    go_ret
    exact ⟨rfl, hW2⟩
  · have ht := h.resolve_left hs
    have e1 : decide ((100 : Int) < (s.size : Int)) = false := by first | (simp; done) | (simp; omega)
    have e2 : decide (100 < s.size) = false := decide_eq_false hs
    have e3 : decide ((100 : Int) < (t.size : Int)) = true := by first | (simp; done) | (simp; omega)
    have e4 : decide (100 < t.size) = true := decide_eq_true ht
    clear h
    go_enter Tryd.func4, Tryd.ntmps4
    go_wp2_with fail
    refine haw.mono ?_
    rintro e w1 ⟨rfl, hW⟩
    have haw2 := awake5_any hP w1 (hG.up hW)
    clear haw hG
    go_wp2_with fail
    refine haw2.mono ?_
    rintro e w2 ⟨rfl, b2⟩
    have hW2 := hW.trans (b2.mono hW.size)
    clear haw2 b2
    go_wp2_with fail
    go_ret
    exact ⟨rfl, hW2⟩
theorem egroups_any (hP : EParses) (s t : ByteArray) (w : World) (hG : Gl w) :
    Calls Tryd.prog 4 #[.string s, .string t] w fun e w' => e = .returned (.bool true) ∧ Below w.heap.size w w' := by
  by_cases h : 100 < s.size ∨ 100 < t.size
  · exact egroups_long hP s t w hG h
  · exact egroups_law hP s t w hG (by omega) (by omega)
end Go.Proofs.YtacpoandhocmhaaDoor
namespace Go.Proofs.YtacpoandhocmhaaDoor
open Go Go.RowKit
theorem egroups_all (s t : ByteArray) (w : World) (hG : Gl w) :
    Calls Tryd.prog 4 #[.string s, .string t] w fun e w' => e = .returned (.bool true) ∧ Below w.heap.size w w' := egroups_any (fun s w hG => eparse_any s w hG) s t w hG
end Go.Proofs.YtacpoandhocmhaaDoor
