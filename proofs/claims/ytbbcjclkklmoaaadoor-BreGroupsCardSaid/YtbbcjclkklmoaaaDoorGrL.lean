/- The statement BreGroups, walked. -/
import Derived.Test.YtbbcjclkklmoaaaDoorGrT
import Derived.Test.YtbbcjclkklmoaaaDoorGrE
import Derived.Test.YtbbcjclkklmoaaaDoorBreAwake
namespace Go.Proofs.YtbbcjclkklmoaaaDoor
open Go Go.RowKit Go.Shelf

/-- What an own row of marks holds. -/
theorem marks_form {w : World} {B : Nat} {v : Value} {l : List (Nat × Nat)} (h : w.ownsRow B 39 2 v l.length (marksC l)) :
    ∃ a cap, v = .slice a l.length cap ∧ l.length ≤ maxLen ∧ (∀ k, k < l.length → ∃ g, a = some ⟨g, 0, none⟩ ∧ w.cell? ⟨g, 0 + k * 2, none⟩ = some (.int .i64 ((l.getD k (0, 0)).1 : Int)) ∧ g < w.heap.size) := by
  obtain ⟨h1, h2⟩ := h
  rcases h2 with ⟨rfl, hz⟩ | ⟨g, cap, cur, rfl, hg, hh, hn, hcap, hcs, htk⟩
  · exact ⟨none, 0, by rw [hz], by rw [hz]; exact Nat.zero_le _, fun k hk => by omega⟩
  · refine ⟨_, cap, rfl, Nat.le_trans hn hcap, fun k hk => ⟨g, rfl, ?_, (Array.getElem?_eq_some_iff.1 hh).1⟩⟩
    have hc : w.cell? ⟨g, 0 + k * 2, none⟩ = cur[0 + k * 2]? := by simp [World.cell?, hh]
    rw [hc, Nat.zero_add, ← Array.getElem?_toList]
    have h3 : (cur.toList.take (l.length * 2))[k * 2]? = cur.toList[k * 2]? := List.getElem?_take_of_lt (by omega)
    rw [← h3, htk]
    clear h3 htk hc hh hcs h1 hg hn hcap
    induction l generalizing k with
    | nil => simp at hk
    | cons m ms ih =>
      show (markC m ++ marksC ms)[k * 2]? = _
      cases k with
      | zero => rfl
      | succ k =>
        rw [List.getElem?_append_right (by simp [markC]; omega)]
        have := ih k (by simpa using hk)
        rw [show (k + 1) * 2 - (markC m).length = k * 2 by simp [markC]; omega, this]
        rfl
theorem parse_long (s : ByteArray) (w : World) (hG : Gl w) (st : ReSt) (a : Nd) (h : parseM false s.data.toList = .ok (st, a)) :
    Calls Tryd.prog 10 #[.string s] w fun e w' => ∃ v ma mc, e = .returned (.tuple #[v, .slice ma st.marks.length mc, .int .i64 0, .int .i64 0]) ∧ NdX (fun k => k < w'.heap.size) w' a v ∧ Below w.heap.size w w' ∧ st.marks.length ≤ 250 ∧
      (∀ k, k < st.marks.length → ∃ g, ma = some ⟨g, 0, none⟩ ∧ w'.cell? ⟨g, 0 + k * 2, none⟩ = some (.int .i64 ((st.marks.getD k (0, 0)).1 : Int)) ∧ g < w'.heap.size) := by
  refine (bparse_any s w hG).mono ?_
  rw [h]
  rintro e w' ⟨hb, v, mv, rfl, hn, hm⟩
  obtain ⟨ma, mc, rfl, _, hk⟩ := marks_form hm
  exact ⟨v, ma, mc, rfl, ndx_in hn, hb, Nat.le_trans (whole_mks h) (whole_in h).1, hk⟩
theorem parse_bad (s : ByteArray) (w : World) (hG : Gl w) (q : Nat × Nat) (h : parseM false s.data.toList = .error q) :
    Calls Tryd.prog 10 #[.string s] w fun e w' => e = .returned (.tuple #[.nilIface, .slice none 0 0, .int .i64 (q.2 : Int), .int .i64 (q.1 : Int)]) ∧ Below w.heap.size w w' := by
  refine (bparse_any s w hG).mono ?_
  rw [h]
  rintro e w' ⟨hb, rfl⟩
  exact ⟨rfl, hb⟩
theorem cpart_unc (d : Nd) : (tcpart (unc d)).length ≤ nsize d := by
  have h := nsizes_length (nkids d)
  have h2 := nsize_kids d
  have h3 := unc_kids d
  unfold tcpart
  split
  · rw [h3, List.length_map]; omega
  · simp; omega
theorem trw_two {F G : Nat → Prop} {w : World} {x y : Tr} {a a' : Option Addr} {c c' : Nat} {T : TypeId} (hx : TrX F w x a c) (hy : TrX F w y a' c') (hG : ∀ b, F b → b < w.heap.size → G b) (hn : G w.heap.size) :
    TrRw G (w.alloc (.cells (tC x a c ++ tC y a' c') T)) [x, y] (some ⟨w.heap.size, 0, none⟩) 2 := by
  have hb := Blk.new w (tC x a c ++ tC y a' c') T _ rfl
  have hB := (Below.refl w.heap.size w).alloc (Nat.le_refl _) (.cells (tC x a c ++ tC y a' c') T)
  have hk : ∀ b, F b → b < w.heap.size → G b ∧ ∀ o, (w.alloc (.cells (tC x a c ++ tC y a' c') T)).cell? ⟨b, o, none⟩ = w.cell? ⟨b, o, none⟩ := fun b hf hlt => ⟨hG b hf hlt, fun o => hB.cell (p := ⟨b, o, none⟩) hlt⟩
  have hch : Chunks G (w.alloc (.cells (tC x a c ++ tC y a' c') T)) ([x] ++ [y]) ((tC x a c).toList ++ (tC y a' c').toList) := (Chunks.single (hx.keep hB.size hk)).append (Chunks.single (hy.keep hB.size hk))
  refine ⟨Nat.le_refl _, by decide, fun _ => ⟨w.heap.size, 0, rfl, hn, hb.lt, fun i hi => ?_⟩⟩
  exact Chunks.at (b := w.heap.size) (o := 0) hch (fun j u hu => by rw [Nat.zero_add, hb.cell j, ← Array.getElem?_toList, Array.toList_append]; exact hu) i hi
set_option linter.unusedSimpArgs false in
set_option maxRecDepth 100000 in
set_option maxHeartbeats 4000000 in
theorem groups_law (s t : ByteArray) (w : World) (hG : Gl w) (hs : s.size ≤ 100) (ht : t.size ≤ 100) :
    Calls Tryd.prog 4 #[.string s, .string t] w fun e w' => e = .returned (.bool true) ∧ Below w.heap.size w w' := by
  have haw := awake4_any w hG
  have HG := Lib.hid hG
  have e1 : decide ((100 : Int) < (s.size : Int)) = false := by first | (simp; done) | (simp; omega)
  have e2 : decide (100 < s.size) = false := by simp; omega
  have e3 : decide ((100 : Int) < (t.size : Int)) = false := by first | (simp; done) | (simp; omega)
  have e4 : decide (100 < t.size) = false := by simp; omega
  go_enter Tryd.func4, Tryd.ntmps4
  go_wp2_with fail
  refine haw.mono ?_
  rintro e w1 ⟨rfl, hW⟩
  clear haw hG
  cases hA : parseM false s.data.toList with
  | error q =>
    have hpa := parse_bad s w1 (HG.out.up hW) q hA
    have hne := whole_err hA
    have hq0 : ((q.1 : Int) != 0) = true := by simp; omega
    have hq1 : ((q.1 : Int) == 0) = false := by rw [beq_eq_false_iff_ne]; omega
    generalize q.1 = q1 at *
    generalize q.2 = q2 at *
    clear hne
    go_wp2_with fail
    refine hpa.mono ?_
    rintro e w2 ⟨rfl, b2⟩
    have hW2 := hW.trans (b2.mono hW.size)
    have hpb := bparse_any t w2 (HG.out.up hW2)
    clear hpa b2 hA
    go_wp2_with fail
    refine hpb.mono ?_
    rintro e w3 ⟨b3, hx⟩
    have hW3 := hW2.trans (b3.mono hW2.size)
    obtain ⟨v, mv, x, y, rfl⟩ : ∃ v mv x y, e = .returned (.tuple #[v, mv, .int .i64 x, .int .i64 y]) := by
      cases hB : parseM false t.data.toList with
      | error q => rw [hB] at hx; exact ⟨_, _, _, _, hx⟩
      | ok q => rw [hB] at hx; obtain ⟨v, mv, h, _⟩ := hx; exact ⟨_, _, _, _, h⟩
    clear hx hpb b3
    go_wp2_with fail
    go_ret
    exact ⟨rfl, hW3⟩
  | ok q =>
    obtain ⟨st, a⟩ := q
    have hpa := parse_long s w1 (HG.out.up hW) st a hA
    go_wp2_with fail
    refine hpa.mono ?_
    rintro e w2 ⟨va, ma, mc, rfl, hna, b2, hma, _⟩
    have hW2 := hW.trans (b2.mono hW.size)
    clear hpa b2 hW
    cases hB : parseM false t.data.toList with
    | error q =>
      have hpb := parse_bad t w2 (HG.out.up hW2) q hB
      have hne := whole_err hB
      have hq0 : ((q.1 : Int) != 0) = true := by simp; omega
      have hq1 : ((q.1 : Int) == 0) = false := by rw [beq_eq_false_iff_ne]; omega
      generalize q.1 = q1 at *
      generalize q.2 = q2 at *
      clear hne hB hA hna
      go_wp2_with fail
      refine hpb.mono ?_
      rintro e w3 ⟨rfl, b3⟩
      have hW3 := hW2.trans (b3.mono hW2.size)
      clear hpb b3
      go_wp2_with fail
      go_ret
      exact ⟨rfl, hW3⟩
    | ok q =>
      obtain ⟨st2, b⟩ := q
      have hpb := parse_long t w2 (HG.out.up hW2) st2 b hB
      have HA := Lib.hid hA
      have HB := Lib.hid hB
      have HNA := Lib.hid hna
      clear hA hB hna
      go_wp2_with fail
      refine hpb.mono ?_
      rintro e w3 ⟨vb, mb, mbc, rfl, hnb, b3, hmb, _⟩
      have HMA := Lib.hid hma
      have HMB := Lib.hid hmb
      clear hma hmb
      have hW3 := hW2.trans (b3.mono hW2.size)
      have hna := ndx_in (HNA.out.below b3)
      have hsa := whole_size HA.out
      have hsb := whole_size HB.out
      have hba := pbacks_any a va w3 hna (by omega)
      have HNA := Lib.hid hna
      have HNB := Lib.hid hnb
      have HSA := Lib.hid hsa
      have HSB := Lib.hid hsb
      clear hpb b3 hna hnb hsa hsb hW2
      cases hbk : nbacks a with
      | true =>
        rw [hbk] at hba
        clear hbk
        go_wp2_with fail
        refine hba.mono ?_
        rintro e w4 ⟨rfl, b4⟩
        have hW4 := hW3.trans (b4.mono hW3.size)
        clear hba b4
        go_wp2_with fail
        go_ret
        exact ⟨rfl, hW4⟩
      | false =>
        rw [hbk] at hba
        have HBA := Lib.hid hbk
        clear hbk
        go_wp2_with fail
        refine hba.mono ?_
        rintro e w4 ⟨rfl, b4⟩
        have hW4 := hW3.trans (b4.mono hW3.size)
        have HNA := Lib.hid (ndx_in (HNA.out.below b4))
        have hnb := ndx_in (HNB.out.below b4)
        have hbb := pbacks_any b vb w4 hnb (by have := HSB.out; omega)
        have HNB := Lib.hid hnb
        clear hba b4 hW3 hnb
        cases hbk : nbacks b with
        | true =>
          rw [hbk] at hbb
          clear hbk
          go_wp2_with fail
          refine hbb.mono ?_
          rintro e w5 ⟨rfl, b5⟩
          have hW5 := hW4.trans (b5.mono hW4.size)
          clear hbb b5
          go_wp2_with fail
          go_ret
          exact ⟨rfl, hW5⟩
        | false =>
          rw [hbk] at hbb
          have HBB := Lib.hid hbk
          clear hbk
          go_wp2_with fail
          refine hbb.mono ?_
          rintro e w5 ⟨rfl, b5⟩
          have hW5 := hW4.trans (b5.mono hW4.size)
          have HNA := Lib.hid (ndx_in (HNA.out.below b5))
          have HNB := Lib.hid (ndx_in (HNB.out.below b5))
          have hdp := pdeep_any a va w5 HNA.out (by have := HSA.out; omega)
          clear hbb b5 hW4
          go_upto_if 66 with (go_at_call 14; refine hdp.mono ?_; rintro e w6 ⟨rfl, b6⟩)
          have hW6 := hW5.trans (b6.mono hW5.size)
          have HNA := Lib.hid (ndx_in (HNA.out.below b6))
          have HNB := Lib.hid (ndx_in (HNB.out.below b6))
          clear hdp b6 hW5
          go_cut [] (fun wx => Below w6.heap.size w6 wx)
          case first =>
            by_cases hD : 12 ≤ ndeep a
            · have e5 : decide ((ndeep a : Int) < 12) = false := decide_eq_false (by omega)
              have e6 : decide (ndeep a < 12) = false := decide_eq_false (by omega)
              have e7 : ¬ ((ndeep a : Int) < 12) := by omega
              have e8 : 12 ≤ (ndeep a : Int) := by omega
              clear hD
              go_wp2_with fail
              go_meet
              exact Below.refl _ _
            · have e5 : decide ((ndeep a : Int) < 12) = true := decide_eq_true (by omega)
              have e6 : decide (ndeep a < 12) = true := decide_eq_true (by omega)
              replace hD : ndeep a < 12 := by omega
              have e7 : ((ndeep a : Int) < 12) := by omega
              have e8 : ¬ 12 ≤ (ndeep a : Int) := by omega
              obtain ⟨st3, hgp, hgm⟩ := parse_group HA.out HBA.out hD (by simp; omega)
              have HDL : ((⟨#[92, 40]⟩ : ByteArray) ++ s ++ ⟨#[92, 41]⟩).data.toList = sgn false 40 ++ (s.data.toList ++ sgn false 41) := by simp [ByteArray.data_append, sgn]
              rw [← HDL] at hgp
              have HGP := Lib.hid hgp
              have HGM := Lib.hid hgm
              have hsl : s.size ≤ 100 := hs
              have hpg := parse_long _ w6 (HG.out.up hW6) st3 _ HGP.out
              clear hD hgp hgm HDL
              go_wp2_with fail
              refine hpg.mono ?_
              rintro e w7 ⟨vg, mg, mgc, rfl, hng, b7, _, _⟩
              obtain ⟨u, rfl, hu⟩ : ∃ u, vg = .iface 36 (.agg #[.int .i64 1, u]) ∧ NdX (fun k => k < w7.heap.size) w7 (nturn 1 a) u := by
                rcases nd_kinds hng with ⟨h, _⟩ | ⟨_, h, _⟩ | ⟨_, _, _, h, _⟩ | ⟨_, _, _, h, _⟩ | ⟨_, _, _, _, h, _⟩ | ⟨num, d', u, h, hv, hu⟩ | ⟨_, h, _⟩ | ⟨h, _⟩ | ⟨h, _⟩ <;> try (cases h; done)
                injection h with h1 h2
                subst h1 h2
                exact ⟨u, hv, hu⟩
              have hml : ((st3.marks.length : Int) != (st.marks.length : Int)) = false := by rw [HGM.out]; simp
              have hb67 := b7
              have hA7 := (Below.refl w7.heap.size w7).alloc (Nat.le_refl _) (.cells #[.int .i64 1, u] 36)
              have hBk := Blk.new w7 #[.int .i64 1, u] 36 w7.heap.size rfl
              have hc0 := (hBk.cell 0).trans rfl
              have hc1 := (hBk.cell 1).trans rfl
              have huA := ndx_in (hu.below hA7)
              have hb8 := hb67.trans (hA7.mono hb67.size)
              have hg1 := pgroups_any _ u _ huA (by rw [(nturn_size 1 a).1]; have := HSA.out; omega)
              have hz1 := fun w' (hb : Below (w7.alloc (.cells #[.int .i64 1, u] 36)).heap.size (w7.alloc (.cells #[.int .i64 1, u] 36)) w') => psize_any _ u w' (ndx_in (huA.below hb)) (by rw [(nturn_size 1 a).1]; have := HSA.out; omega)
              rw [(nturn_size 1 a).2] at hg1
              rw [(nturn_size 1 a).1] at hz1
              have HZ1 := Lib.hid hz1
              have HB8 := Lib.hid hb8
              have HBK := Lib.hid hBk
              have hsh : (∃ T q, u = .iface T q) ∨ u = .nilIface := huA.elim fun _ h => nd_shape h
              clear hz1 hb8 hb67 hA7 huA hu hng b7 hpg hBk
              rcases hsh with ⟨T1, q1, rfl⟩ | rfl
              all_goals
                go_wp2_with fail
                refine hg1.mono ?_
                rintro e w8 ⟨rfl, b8⟩
                have h68 := HB8.out.trans (b8.mono HB8.out.size)
                have hg2 := pgroups_any a va w8 (ndx_in (HNA.out.below h68)) (by have := HSA.out; omega)
                have HBK8 := Lib.hid (HBK.out.below b8 HBK.out.lt)
                have Hb78 := Lib.hid b8
                have H68 := Lib.hid h68
                clear hg1 b8 h68 hc0 hc1
                go_wp2_with fail
                refine hg2.mono ?_
                rintro e w9 ⟨rfl, b9⟩
                have hBK9 := HBK8.out.below b9 HBK8.out.lt
                have hc1 := (hBK9.cell 1).trans rfl
                have h79 := Hb78.out.trans (b9.mono Hb78.out.size)
                have hz2 := HZ1.out w9 h79
                have H69 := Lib.hid (H68.out.trans (b9.mono H68.out.size))
                clear hg2 b9 hBK9 h79
                go_wp2_with fail
                refine hz2.mono ?_
                rintro e w10 ⟨rfl, b10⟩
                have h610 := H69.out.trans (b10.mono H69.out.size)
                have hz3 := psize_any a va w10 (ndx_in (HNA.out.below h610)) (by have := HSA.out; omega)
                have H610 := Lib.hid h610
                clear hz2 b10 h610 hc1
                go_wp2_with fail
                refine hz3.mono ?_
                rintro e w11 ⟨rfl, b11⟩
                have h611 := H610.out.trans (b11.mono H610.out.size)
                clear hz3 b11
                go_wp2_with fail
                go_meet
                exact h611
          case rest =>
            have hWc := hW6.trans (hcut.mono hW6.size)
            have HNA := Lib.hid (ndx_in (HNA.out.below hcut))
            have HNB := Lib.hid (ndx_in (HNB.out.below hcut))
            obtain ⟨st3, hgp, hgm⟩ := parse_bar HA.out HB.out HBA.out HBB.out (by simp; omega)
            have HDL : (s ++ (⟨#[92, 124]⟩ : ByteArray) ++ t).data.toList = s.data.toList ++ (sgn false 124 ++ t.data.toList) := by simp [ByteArray.data_append, sgn]
            rw [← HDL] at hgp
            have HGP := Lib.hid hgp
            have hpg := parse_long _ wc (HG.out.up hWc) st3 _ HGP.out
            have HGM := Lib.hid hgm
            clear hcut hgp hgm HDL
            go_wp2_with fail
            refine hpg.mono ?_
            rintro e w7 ⟨vg, mg, mgc, rfl, hng, b7, hmg, hmk⟩
            have hst3 : st3.marks = st.marks ++ (s.data.toList.length, 124) :: st2.marks.map (fun m => (s.data.toList.length + opLen false + m.1, m.2)) := by rw [HGM.out]; simp
            have hLn : st3.marks.length = st.marks.length + st2.marks.length + 1 := by rw [hst3, List.length_append, List.length_cons, List.length_map]; omega
            obtain ⟨gm, rfl, hcm, hgm⟩ := hmk st.marks.length (by omega)
            have hat : (st3.marks.getD st.marks.length (0, 0)).1 = s.size := by rw [hst3, List.getD_eq_getElem?_getD, List.getElem?_append_right (Nat.le_refl _), Nat.sub_self]; simp
            rw [hat, Nat.zero_add] at hcm
            have hW7 := hWc.trans (b7.mono hWc.size)
            have HNA := Lib.hid (ndx_in (HNA.out.below b7))
            have HNB := Lib.hid (ndx_in (HNB.out.below b7))
            have hsc : nsize (nchoose [a, nturn (ngroups a : Int) b]) ≤ 4000000 := by
              have h1 := nsize_choose a (nturn (ngroups a : Int) b)
              rw [(nturn_size _ b).1] at h1
              have := HSA.out
              have := HSB.out
              omega
            have hgc : ngroups (nchoose [a, nturn (ngroups a : Int) b]) = ngroups a + ngroups b := by rw [(choose_two _ _).1, (nturn_size _ b).2]
            have hg1 := pgroups_any _ vg w7 hng hsc
            rw [hgc] at hg1
            have HNG := Lib.hid hng
            have HSC := Lib.hid hsc
            have hma := HMA.out
            have hmb := HMB.out
            have HLN := Lib.hid hLn
            have hla : st.marks.length < st3.marks.length := by omega
            generalize st.marks.length = ka at *
            generalize st2.marks.length = kb at *
            generalize st3.marks.length = kc at *
            have eP : (kc : Int) = (ka : Int) + (kb : Int) + 1 := by have := HLN.out; omega
            have eL : ((kc : Int) == (ka : Int) + (kb : Int) + 1) = true := by rw [beq_iff_eq]; exact eP
            have hla2 : (ka : Int) < (kc : Int) := by omega
            clear hst3 hmk hat hpg b7 hWc hng hsc hgc hLn
            have hga := ngroups_size a
            have hgb := ngroups_size b
            have hga2 : ngroups a ≤ 752 := Nat.le_trans hga HSA.out
            have hgb2 : ngroups b ≤ 752 := Nat.le_trans hgb HSB.out
            have HGA := Lib.hid hga2
            have HGB := Lib.hid hgb2
            clear hga hgb hga2 hgb2
            go_wp2_with fail
            refine hg1.mono ?_
            rintro e w8 ⟨rfl, b8⟩
            have hW8 := hW7.trans (b8.mono hW7.size)
            have HNG := Lib.hid (HNG.out.below b8)
            have HNA := Lib.hid (ndx_in (HNA.out.below b8))
            have HNB := Lib.hid (ndx_in (HNB.out.below b8))
            have hg2 := pgroups_any a va w8 HNA.out (by have := HSA.out; omega)
            clear hg1 b8 hW7 hcm hgm
            go_wp2_with fail
            refine hg2.mono ?_
            rintro e w9 ⟨rfl, b9⟩
            have hW9 := hW8.trans (b9.mono hW8.size)
            have HNG := Lib.hid (HNG.out.below b9)
            have HNA := Lib.hid (ndx_in (HNA.out.below b9))
            have HNB := Lib.hid (ndx_in (HNB.out.below b9))
            have hg3 := pgroups_any b vb w9 HNB.out (by have := HSB.out; omega)
            have hga2 := HGA.out
            have hgb2 := HGB.out
            have eG : (((ngroups a + ngroups b : Nat) : Int) == (ngroups a : Int) + (ngroups b : Int)) = true := by rw [beq_iff_eq]; omega
            have eG2 : ((ngroups a + ngroups b : Nat) : Int) = (ngroups a : Int) + (ngroups b : Int) := by omega
            clear hg2 b9 hW8
            go_wp2_with fail
            refine hg3.mono ?_
            rintro e w10 ⟨rfl, b10⟩
            have hW10 := hW9.trans (b10.mono hW9.size)
            have HNG := Lib.hid (HNG.out.below b10)
            have HNA := Lib.hid (ndx_in (HNA.out.below b10))
            have HNB := Lib.hid (ndx_in (HNB.out.below b10))
            have hr1 := lref_any 4000000 (Nat.le_refl _) a va w10 (by have := HSA.out; omega) HNA.out
            unfold RefR tV at hr1
            clear hg3 b10 hW9
            go_wp2_with fail
            refine hr1.mono ?_
            rintro e w11 ⟨aA, cA, rfl, xA, b11⟩
            have hW11 := hW10.trans (b11.mono hW10.size)
            have HNG := Lib.hid (HNG.out.below b11)
            have HNA := Lib.hid (ndx_in (HNA.out.below b11))
            have HNB := Lib.hid (ndx_in (HNB.out.below b11))
            have XA := Lib.hid (xA.keep (G := fun _ => True) (Nat.le_refl _) (fun _ _ _ => ⟨trivial, fun _ => rfl⟩))
            have hr2 := lref_any 4000000 (Nat.le_refl _) b vb w11 (by have := HSB.out; omega) HNB.out
            unfold RefR tV at hr2
            clear hr1 b11 hW10 xA
            go_wp2_with fail
            refine hr2.mono ?_
            rintro e w12 ⟨aB, cB, rfl, xB, b12⟩
            have hW12 := hW11.trans (b12.mono hW11.size)
            have HNG := Lib.hid (HNG.out.below b12)
            have HNA := Lib.hid (ndx_in (HNA.out.below b12))
            have XA := Lib.hid (XA.out.below b12)
            have XB := Lib.hid (xB.keep (G := fun _ => True) (Nat.le_refl _) (fun _ _ _ => ⟨trivial, fun _ => rfl⟩))
            have hg4 := pgroups_any a va w12 HNA.out (by have := HSA.out; omega)
            clear hr2 b12 hW11 xB
            go_wp2_with fail
            refine hg4.mono ?_
            rintro e w13 ⟨rfl, b13⟩
            have hW13 := hW12.trans (b13.mono hW12.size)
            have HNG := Lib.hid (HNG.out.below b13)
            have XA := Lib.hid (XA.out.below b13)
            have XB := Lib.hid (XB.out.below b13)
            have hno : numok b = true := by
              obtain ⟨hn, ho⟩ := whole_opened HB.out
              exact right_numok b 0 [] _ hn (Int.le_refl _) (by have := HGB.out; omega)
            have ht1 := turned_any (ngroups a : Int) (by omega) (by have := HGA.out; omega) 4000000 (Nat.le_refl _) b aB cB w13 (by have := HSB.out; omega) hno XB.out
            unfold tV at ht1
            clear hg4 b13 hW12 hno
            go_wp2_with fail
            refine ht1.mono ?_
            rintro e w14 ⟨aC, cC, rfl, xC, b14⟩
            have hW14 := hW13.trans (b14.mono hW13.size)
            have HNG := Lib.hid (HNG.out.below b14)
            have XA := XA.out.below b14
            have hL := trw_two (G := fun _ => True) (T := 46) XA (xC.keep (G := fun _ => True) (Nat.le_refl _) (fun _ _ _ => ⟨trivial, fun _ => rfl⟩)) (fun _ _ _ => trivial) trivial
            have hA14 := (Below.refl w14.heap.size w14).alloc (Nat.le_refl _) (.cells (tC (unc a) aA cA ++ tC (utn (ngroups a : Int) b) aC cC) 46)
            have hch := rchoose_any [unc a, utn (ngroups a : Int) b] (some ⟨w14.heap.size, 0, none⟩) 2 _ hL (by
              have h1 := cpart_unc a
              have h2 := cpart_unc (nturn (ngroups a : Int) b)
              rw [(nturn_size _ b).1, ← utn_unc] at h2
              have := HSA.out
              have := HSB.out
              simp only [List.flatMap_cons, List.flatMap_nil, List.length_append, List.length_nil]
              omega) (by simp)
            unfold tV at hch
            have hW15 := hW14.alloc hW14.size (.cells (tC (unc a) aA cA ++ tC (utn (ngroups a : Int) b) aC cC) 46)
            have HNG := Lib.hid (HNG.out.below hA14)
            clear ht1 b14 hW13 xC XA hL hA14 hW14
            go_wp2_with fail
            refine Calls.mono (show Calls _ _ _ (w14.alloc (.cells (tC (unc a) aA cA ++ tC (utn (ngroups a : Int) b) aC cC) 46)) _ from hch) ?_
            rintro e w16 ⟨aD, cD, rfl, xD, b16⟩
            have hW16 := hW15.trans (b16.mono hW15.size)
            have hkn : tknowns [unc a, utn (ngroups a : Int) b] = true := by
              rw [tknowns, tknowns, tknowns, known_unc, utn_unc, known_unc]
              rfl
            have hcn : canon (tchoose [unc a, utn (ngroups a : Int) b]) = nchoose [a, nturn (ngroups a : Int) b] := by
              rw [canon_tchoose _ hkn, List.map_cons, List.map_cons, List.map_nil, canon_unc, utn_unc, canon_unc]
            have hl := lis_any (nchoose [a, nturn (ngroups a : Int) b]) vg (tchoose [unc a, utn (ngroups a : Int) b]) aD cD w16 (HNG.out.below b16) xD (known_tchoose _ hkn) HSC.out
            rw [hcn, nsame_refl] at hl
            unfold tV at hl
            clear hch b16 hW15 xD hkn hcn
            go_wp2_with fail
            refine hl.mono ?_
            rintro e w17 ⟨rfl, b17⟩
            have hW17 := hW16.trans (b17.mono hW16.size)
            clear hl b17 hW16
            go_wp2_with fail
            go_ret
            exact ⟨rfl, hW17⟩
set_option linter.unusedSimpArgs false in
set_option maxRecDepth 100000 in
set_option maxHeartbeats 1000000 in
theorem groups_long (s t : ByteArray) (w : World) (hG : Gl w) (h : 100 < s.size ∨ 100 < t.size) :
    Calls Tryd.prog 4 #[.string s, .string t] w fun e w' => e = .returned (.bool true) ∧ Below w.heap.size w w' := by
  have haw := awake4_any w hG
  by_cases hs : 100 < s.size
  · have e1 : decide ((100 : Int) < (s.size : Int)) = true := by first | (simp; done) | (simp; omega)
    have e2 : decide (100 < s.size) = true := decide_eq_true hs
    clear h
    go_enter Tryd.func4, Tryd.ntmps4
    go_wp2_with fail
    refine haw.mono ?_
    rintro e w1 ⟨rfl, hW⟩
    have haw2 := awake4_any w1 (hG.up hW)
    clear haw hG
    go_wp2_with fail
    refine haw2.mono ?_
    rintro e w2 ⟨rfl, b2⟩
    have hW2 := hW.trans (b2.mono hW.size)
    clear haw2 b2
    go_wp2_with fail
    go_ret
    exact ⟨rfl, hW2⟩
  · have ht := h.resolve_left hs
    have e1 : decide ((100 : Int) < (s.size : Int)) = false := by first | (simp; done) | (simp; omega)
    have e2 : decide (100 < s.size) = false := decide_eq_false hs
    have e3 : decide ((100 : Int) < (t.size : Int)) = true := by first | (simp; done) | (simp; omega)
    have e4 : decide (100 < t.size) = true := decide_eq_true ht
    clear h
    go_enter Tryd.func4, Tryd.ntmps4
    go_wp2_with fail
    refine haw.mono ?_
    rintro e w1 ⟨rfl, hW⟩
    have haw2 := awake4_any w1 (hG.up hW)
    clear haw hG
    go_wp2_with fail
    refine haw2.mono ?_
    rintro e w2 ⟨rfl, b2⟩
    have hW2 := hW.trans (b2.mono hW.size)
    clear haw2 b2
    go_wp2_with fail
    go_ret
    exact ⟨rfl, hW2⟩
theorem groups_any (s t : ByteArray) (w : World) (hG : Gl w) :
    Calls Tryd.prog 4 #[.string s, .string t] w fun e w' => e = .returned (.bool true) ∧ Below w.heap.size w w' := by
  by_cases h : 100 < s.size ∨ 100 < t.size
  · exact groups_long s t w hG h
  · exact groups_law s t w hG (by omega) (by omega)
end Go.Proofs.YtbbcjclkklmoaaaDoor
