/- Plain mathematics of regexes as texts: a regex in a group; two with a bar between. No program is named here. -/
import Derived.Test.YtbbcjclkklmoaaaDoorGrMS
namespace Go.Proofs.YtbbcjclkklmoaaaDoor

def sgn (ere : Bool) (c : UInt8) : List UInt8 := if ere then [c] else [92, c]
theorem sgn_len (ere : Bool) (c : UInt8) : (sgn ere c).length = opLen ere := by cases ere <;> rfl
theorem sgn_op (ere : Bool) (c : UInt8) (t : List UInt8) : opAt ere (sgn ere c ++ t) 0 c.toNat = true := by
  cases ere <;> simp [sgn, opAt, chAt, esAt, byt]
theorem sgn_stop (ere : Bool) (c : UInt8) (hc : c = 41 ∨ c = 124) (t : List UInt8) : Stop ere (sgn ere c ++ t) := by
  rcases hc with rfl | rfl
  · exact .inr ⟨41, .inl rfl, sgn_op ere 41 t⟩
  · exact .inr ⟨124, .inr rfl, sgn_op ere 124 t⟩
/-- A whole regex, as it is read. -/
theorem whole_in {ere : Bool} {s : List UInt8} {st : ReSt} {d : Nd} (h : parseM ere s = .ok (st, d)) :
    s.length ≤ 250 ∧ choiceM ere s (some (regM ere s 11)) false (s.length + 1) reZero [] = .ok (st, d) ∧ opAt ere s st.pos 41 = false := by
  have hl : s.length ≤ 250 := by
    unfold parseM at h
    split at h
    · cases h
    · omega
  rw [parse_shut _ _ hl] at h
  cases hc : choiceM ere s (some (regM ere s 11)) false (s.length + 1) reZero [] with
  | error e => rw [hc] at h; cases h
  | ok q =>
    obtain ⟨st2, d2⟩ := q
    rw [hc] at h
    unfold shutR at h
    simp only at h
    cases h41 : opAt ere s st2.pos 41 with
    | true => rw [h41] at h; cases h
    | false =>
      rw [h41] at h
      injection h with h
      injection h with h1 h2
      subst h1 h2
      exact ⟨hl, rfl, h41⟩
theorem reg_subs (ere : Bool) (s : List UInt8) (k : Nat) : SubMv s (some (regM ere s k)) ∧ SubOk (some (regM ere s k)) :=
  ⟨fun f hf => by injection hf with hf; subst hf; exact reg_mv ere s k, fun f hf => by injection hf with hf; subst hf; exact reg_takes ere s k⟩
theorem reg_sim {ere : Bool} {p s x : List UInt8} (hx : Stop ere x) (g : Nat) (M : List (Nat × Nat)) (k k' D : Nat) (h : D ≤ k' + 1 ∨ k ≤ k') : SubSim p.length g M s D (some (regM ere s k)) (some (regM ere (p ++ (s ++ x)) k')) := by
  intro f hf hD
  injection hf with hf
  subst hf
  exact ⟨_, rfl, em_reg hx g M k k' (D - 1) (by omega)⟩
theorem branch_done (ere : Bool) (s : List UInt8) (sub : Option (ReSt → ReRes (ReSt × Nd))) (begin n : Nat) (st : ReSt) (parts : List Nd) (front : Bool) (h : s.length ≤ st.pos) :
    branchM ere s sub false begin (n + 1) st parts front = .ok (st, njoin parts) := by
  rw [branchM, decide_eq_true h]
  rfl
theorem rep_end (ere : Bool) (s : List UInt8) (k : Nat) (h : s.length ≤ k) : repAt ere s k = .none := by
  unfold repAt
  rw [ch_end _ _ _ h, op_end _ _ _ _ h, op_end _ _ _ _ h, op_end _ _ _ _ h]
  rfl
/-- A regex in a group. -/
theorem parse_group {ere : Bool} {s : List UInt8} {st : ReSt} {d : Nd} (h : parseM ere s = .ok (st, d)) (hb : nbacks d = false) (hD : ndeep d < 12) (hl : s.length + 4 ≤ 250) :
    ∃ st2, parseM ere (sgn ere 40 ++ (s ++ sgn ere 41)) = .ok (st2, .group 1 (nturn 1 d)) ∧ st2.marks.length = st.marks.length := by
  obtain ⟨_, hc, h41⟩ := whole_in h
  have hx : Stop ere (sgn ere 41) := by have := sgn_stop ere 41 (.inl rfl) []; rwa [List.append_nil] at this
  have hop : opLen ere ≤ 2 := by cases ere <;> decide
  have hL : (sgn ere 40 ++ (s ++ sgn ere 41)).length = opLen ere + (s.length + opLen ere) := by rw [List.length_append, List.length_append, sgn_len, sgn_len]
  have hr0 : Rel (sgn ere 40).length 1 [] reZero ⟨opLen ere, 1, [], []⟩ := ⟨by rw [sgn_len]; rfl, rfl, rfl⟩
  obtain ⟨l1, st1', m, _, a1, a2, a3, a4, _, _, a7, a8⟩ := em_choice hx 1 [] 11 (some (regM ere s 11)) (some (regM ere (sgn ere 40 ++ (s ++ sgn ere 41)) 10)) (reg_sim hx 1 [] 11 10 11 (.inl (by omega))) (reg_subs ere s 11).1 (reg_subs ere s 11).2
    (s.length + 1) ((sgn ere 40 ++ (s ++ sgn ere 41)).length + 1) (by rw [hL]; omega) reZero [] st d (Nat.zero_le _) hc hb (by omega) ⟨opLen ere, 1, [], []⟩ hr0 []
  have hpos : st.pos = s.length := by
    rcases a2 with a2 | a2
    · omega
    · rw [h41] at a2; cases a2
  have hp1 : st1'.pos = opLen ere + s.length := by rw [a7.1, sgn_len, hpos]
  have e41 : opAt ere (sgn ere 40 ++ (s ++ sgn ere 41)) st1'.pos 41 = true := by
    rw [a7.1, hpos, app_op]
    have := app_op ere s (sgn ere 41) 0 41
    rw [Nat.add_zero] at this
    rw [this]
    have h2 := sgn_op ere 41 []
    rw [List.append_nil] at h2
    exact h2
  have e124 : opAt ere (sgn ere 40 ++ (s ++ sgn ere 41)) st1'.pos 124 = false := op_other e41 (by decide)
  rw [e124] at a8
  simp only [Bool.false_eq_true, if_false, List.nil_append, List.map_nil] at a8
  rw [nturn_choose, show nchoose l1 = d from a4.symm] at a8
  have e40 : opAt ere (sgn ere 40 ++ (s ++ sgn ere 41)) 0 40 = true := sgn_op ere 40 _
  generalize hS : sgn ere 40 ++ (s ++ sgn ere 41) = S at *
  have hgr : atomM ere S (some (regM ere S 11)) reZero = .ok ({ st1' with pos := st1'.pos + opLen ere, closed := st1'.closed ++ [(0 : Int) + 1] }, .group 1 (nturn 1 d)) := by
    unfold atomM
    rw [show reZero.pos = 0 from rfl, e40, if_pos rfl]
    unfold grpM
    simp only
    rw [show ({ pos := reZero.pos + opLen ere, opened := reZero.opened + 1, closed := reZero.closed, marks := reZero.marks } : ReSt) = ⟨opLen ere, 1, [], []⟩ by simp [reZero]]
    rw [regM, a8]
    simp only
    rw [if_pos e41]
    rfl
  generalize hst2 : ({ st1' with pos := st1'.pos + opLen ere, closed := st1'.closed ++ [(0 : Int) + 1] } : ReSt) = st2 at hgr
  have hp2 : S.length ≤ st2.pos := by rw [← hst2, hL]; show _ ≤ st1'.pos + opLen ere; omega
  have hm2 : st2.marks = st1'.marks := by rw [← hst2]
  have hbr : branchM ere S (some (regM ere S 11)) false 0 (S.length + 1) reZero [] true = .ok (st2, njoin [.group 1 (nturn 1 d)]) := by
    obtain ⟨k, hk⟩ : ∃ k, S.length = k + 1 := ⟨S.length - 1, by rw [hL]; have := op_pos ere; omega⟩
    rw [branchM, show reZero.pos = 0 from rfl, decide_eq_false (show ¬ S.length ≤ 0 by omega), op_other e40 (show 40 ≠ 124 by decide), op_other e40 (show 40 ≠ 41 by decide), op_ch e40 (show 40 ≠ 94 by decide) (by decide), op_ch e40 (show 40 ≠ 36 by decide) (by decide), op_other e40 (show 40 ≠ 123 by decide), op_other e40 (show 40 ≠ 43 by decide), op_other e40 (show 40 ≠ 63 by decide), op_ch e40 (show 40 ≠ 42 by decide) (by decide)]
    simp only [Bool.false_or, Bool.false_and, Bool.and_false, Bool.false_eq_true, if_false]
    rw [hgr]
    simp only
    rw [hk, repM, rep_end ere S _ hp2]
    simp only
    rw [branch_done ere S _ _ _ _ _ _ hp2]
    rfl
  refine ⟨st2, ?_, ?_⟩
  · rw [parse_shut _ _ (by rw [hL]; omega), choiceM, show reZero.pos = 0 from rfl, hbr]
    simp only
    rw [op_end _ _ _ _ hp2]
    simp only [Bool.false_eq_true, if_false]
    unfold shutR
    simp only
    rw [op_end _ _ _ _ hp2]
    rfl
  · rw [hm2, a7.2.2, List.nil_append, List.length_map]
/-- Two regexes with a bar between. -/
theorem parse_bar {ere : Bool} {s t : List UInt8} {st st2 : ReSt} {d d2 : Nd} (h : parseM ere s = .ok (st, d)) (k : parseM ere t = .ok (st2, d2)) (hb : nbacks d = false) (kb : nbacks d2 = false) (hl : s.length + t.length + 2 ≤ 250) :
    ∃ st3, parseM ere (s ++ (sgn ere 124 ++ t)) = .ok (st3, nchoose [d, nturn (ngroups d : Int) d2]) ∧ st3.marks = st.marks ++ (if ere then [] else [(s.length, 124)]) ++ st2.marks.map (fun m => (s.length + opLen ere + m.1, m.2)) := by
  obtain ⟨_, hc, h41⟩ := whole_in h
  obtain ⟨_, kc, k41⟩ := whole_in k
  have hop : opLen ere ≤ 2 := by cases ere <;> decide
  have hx : Stop ere (sgn ere 124 ++ t) := sgn_stop ere 124 (.inr rfl) t
  have hL : (s ++ (sgn ere 124 ++ t)).length = s.length + (opLen ere + t.length) := by rw [List.length_append, List.length_append, sgn_len]
  obtain ⟨l1, st1', m, hm, a1, a2, a3, a4, a5, a6, a7, a8⟩ := em_choice (p := []) hx 0 [] (ndeep d) (some (regM ere s 11)) (some (regM ere ([] ++ (s ++ (sgn ere 124 ++ t))) 11)) (reg_sim hx 0 [] 11 11 (ndeep d) (.inr (Nat.le_refl _))) (reg_subs ere s 11).1 (reg_subs ere s 11).2
    (s.length + 1) (([] ++ (s ++ (sgn ere 124 ++ t)) : List UInt8).length + 1) (by rw [List.nil_append, hL]; omega) reZero [] st d (Nat.zero_le _) hc hb (Nat.le_refl _) reZero ⟨rfl, rfl, rfl⟩ []
  rw [List.nil_append] at hm a8
  have hpos : st.pos = s.length := by
    rcases a2 with a2 | a2
    · omega
    · rw [h41] at a2; cases a2
  have hp1 : st1'.pos = s.length := by rw [a7.1, hpos]; simp
  have e124 : opAt ere (s ++ (sgn ere 124 ++ t)) st1'.pos 124 = true := by
    rw [hp1]
    have := app_op ere s (sgn ere 124 ++ t) 0 124
    rw [Nat.add_zero] at this
    rw [this]
    exact sgn_op ere 124 t
  rw [e124] at a8
  simp only [List.nil_append, List.map_nil, if_true] at a8
  have hz : l1.map (nturn ((0 : Nat) : Int)) = l1 := by rw [← nturns_map]; exact nturns_zero l1
  rw [hz] at a8
  have ho : st.opened = ngroups d := by
    have ht := choice_takes ere s (some (regM ere s 11)) (reg_subs ere s 11).2 false _ _ _ _ _ reZero (show TakesL [] reZero reZero from rfl) rfl hc
    have hn := (nright_count d _ _ _ ht).1
    have h0 : ((reZero.opened : Nat) : Int) = 0 := rfl
    rw [h0] at hn
    simp only at hn
    omega
  have hmk : st1'.marks = st.marks := by
    rw [a7.2.2, List.nil_append]
    simp
  generalize hst3 : ((if ere then st1' else st1'.mark 124).to (st1'.pos + opLen ere) : ReSt) = st3 at a8
  have hr3 : Rel (s ++ sgn ere 124).length (ngroups d) (st.marks ++ (if ere then [] else [(s.length, 124)])) reZero st3 := by
    rw [← hst3]
    refine ⟨?_, ?_, ?_⟩
    · show st1'.pos + opLen ere = _
      rw [List.length_append, sgn_len, hp1]
      rfl
    · have : st1'.opened = 0 + st.opened := a7.2.1
      cases ere with
      | true => show st1'.opened = _; rw [this, ho, Nat.zero_add]; rfl
      | false => show st1'.opened = _; rw [this, ho, Nat.zero_add]; rfl
    · cases ere with
      | true => show st1'.marks = _; rw [hmk]; simp [reZero]
      | false => show st1'.marks ++ [(st1'.pos, 124)] = _; rw [hmk, hp1]; simp [reZero]
  obtain ⟨l2, st4', m2, _, b1, b2, b3, b4, b5, b6, b7, b8⟩ := em_choice (p := s ++ sgn ere 124) (x := []) (.inl rfl) (ngroups d) (st.marks ++ (if ere then [] else [(s.length, 124)])) (ndeep d2) (some (regM ere t 11)) (some (regM ere ((s ++ sgn ere 124) ++ (t ++ [])) 11)) (reg_sim (.inl rfl) (ngroups d) _ 11 11 (ndeep d2) (.inr (Nat.le_refl _))) (reg_subs ere t 11).1 (reg_subs ere t 11).2
    (t.length + 1) m (by rw [hL] at hm; have := op_pos ere; omega) reZero [] st2 d2 (Nat.zero_le _) kc kb (Nat.le_refl _) st3 hr3 l1
  have hS : (s ++ sgn ere 124) ++ (t ++ []) = s ++ (sgn ere 124 ++ t) := by rw [List.append_nil, List.append_assoc]
  rw [hS] at b8
  have kpos : st2.pos = t.length := by
    rcases b2 with b2 | b2
    · omega
    · rw [k41] at b2; cases b2
  have hp4 : (s ++ (sgn ere 124 ++ t)).length ≤ st4'.pos := by rw [b7.1, kpos, hL, List.length_append, sgn_len]; omega
  rw [op_end _ _ _ _ hp4] at b8
  simp only [Bool.false_eq_true, if_false, List.nil_append, List.map_nil, List.append_nil] at b8
  have hnc : nchoose (l1 ++ l2.map (nturn (ngroups d : Int))) = nchoose [d, nturn (ngroups d : Int) d2] := by
    have c1 : ∀ l : List Nd, l ≠ [] → l.all inAlt = true → cpart (nchoose l) = l := by
      intro l hne hal
      have hf := cflat_all l hal
      unfold nchoose
      rw [hf]
      rcases l with _ | ⟨y, _ | ⟨z, zs⟩⟩
      · exact (hne rfl).elim
      · simp only
        have : cflat [y] = [y] := hf
        simpa [cflat] using this
      · rfl
    have q1 : cpart d = l1 := by rw [show d = nchoose l1 from a4]; exact c1 l1 a5 a6
    have q2 : cpart d2 = l2 := by rw [show d2 = nchoose l2 from b4]; exact c1 l2 b5 b6
    have hal2 : (l2.map (nturn (ngroups d : Int))).all inAlt = true := by
      rw [List.all_map]
      rw [List.all_eq_true] at b6 ⊢
      intro y hy
      have := b6 y hy
      cases y <;> first | rfl | exact this
    unfold nchoose
    rw [cflat_two, nturn_cpart, q1, q2, cflat_all _ (by rw [List.all_append, a6, hal2]; rfl)]
  rw [hnc] at b8
  refine ⟨st4', ?_, ?_⟩
  · rw [parse_shut _ _ (by rw [hL]; omega), a8, b8]
    unfold shutR
    simp only
    rw [op_end _ _ _ _ hp4]
    rfl
  · rw [b7.2.2, List.length_append, sgn_len]
end Go.Proofs.YtbbcjclkklmoaaaDoor
