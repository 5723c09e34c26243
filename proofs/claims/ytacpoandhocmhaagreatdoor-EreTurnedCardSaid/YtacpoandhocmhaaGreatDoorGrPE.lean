/- GrMS: GrM: Plain mathematics of regexes as texts: what stands ahead of a regex, and behind it, turns nothing but places and the numbers of groups. No program is named here.
   GrS: Plain mathematics of regexes as texts: a regex that stands in a longer text is read there as it is alone. No program is named here.
   GrP: Plain mathematics of regexes as texts: a regex in a group; two with a bar between. No program is named here.
   GrE: Plain mathematics of regexes as texts: an error has a number; what a whole regex holds. No program is named here. -/
import Derived.Test.YtacpoandhocmhaaGreatDoorMaC
import Derived.Test.YtacpoandhocmhaaGreatDoorMaA
namespace Go.Proofs.YtacpoandhocmhaaGreatDoor

mutual
/-- A node whose groups have greater numbers. -/
def nturn (g : Int) : Nd → Nd
  | .empty => .empty
  | .one s => .one s
  | .cat l => .cat (nturns g l)
  | .alt l => .alt (nturns g l)
  | .rep d a b => .rep (nturn g d) a b
  | .group n d => .group (n + g) (nturn g d)
  | .back n => .back n
  | .start => .start
  | .fin => .fin
def nturns (g : Int) : List Nd → List Nd
  | [] => []
  | d :: ds => nturn g d :: nturns g ds
end
theorem nturns_map (g : Int) (l : List Nd) : nturns g l = l.map (nturn g) := by
  induction l with
  | nil => rfl
  | cons d ds ih => rw [nturns, ih]; rfl
mutual
theorem nturn_zero : ∀ d : Nd, nturn 0 d = d
  | .empty => rfl
  | .one _ => rfl
  | .cat l => by rw [nturn, nturns_zero l]
  | .alt l => by rw [nturn, nturns_zero l]
  | .rep d _ _ => by rw [nturn, nturn_zero d]
  | .group n d => by rw [nturn, nturn_zero d, Int.add_zero]
  | .back _ => rfl
  | .start => rfl
  | .fin => rfl
theorem nturns_zero : ∀ l : List Nd, nturns 0 l = l
  | [] => rfl
  | d :: ds => by rw [nturns, nturn_zero d, nturns_zero ds]
end
mutual
theorem nturn_size (g : Int) : ∀ d : Nd, nsize (nturn g d) = nsize d ∧ ngroups (nturn g d) = ngroups d
  | .empty => ⟨rfl, rfl⟩
  | .one _ => ⟨rfl, rfl⟩
  | .cat l => by have h := nturns_size g l; simp only [nturn, nsize, ngroups, h]; exact ⟨trivial, trivial⟩
  | .alt l => by have h := nturns_size g l; simp only [nturn, nsize, ngroups, h]; exact ⟨trivial, trivial⟩
  | .rep d _ _ => by have h := nturn_size g d; simp only [nturn, nsize, ngroups, h]; exact ⟨trivial, trivial⟩
  | .group n d => by have h := nturn_size g d; simp only [nturn, nsize, ngroups, h]; exact ⟨trivial, trivial⟩
  | .back _ => ⟨rfl, rfl⟩
  | .start => ⟨rfl, rfl⟩
  | .fin => ⟨rfl, rfl⟩
theorem nturns_size (g : Int) : ∀ l : List Nd, nsizes (nturns g l) = nsizes l ∧ ngroupss (nturns g l) = ngroupss l
  | [] => ⟨rfl, rfl⟩
  | d :: ds => by have h := nturn_size g d; have k := nturns_size g ds; simp only [nturns, nsizes, ngroupss, h, k]; exact ⟨trivial, trivial⟩
end
theorem nturn_jpart (g : Int) (d : Nd) : jpart (nturn g d) = (jpart d).map (nturn g) := by cases d <;> simp [nturn, jpart, nturns_map]
theorem nturn_cpart (g : Int) (d : Nd) : cpart (nturn g d) = (cpart d).map (nturn g) := by cases d <;> simp [nturn, cpart, nturns_map]
theorem nturn_jflat (g : Int) (l : List Nd) : jflat (l.map (nturn g)) = (jflat l).map (nturn g) := by
  induction l with
  | nil => rfl
  | cons d ds ih =>
    show jpart (nturn g d) ++ jflat (ds.map (nturn g)) = _
    rw [ih, nturn_jpart, ← List.map_append]
    rfl
theorem nturn_cflat (g : Int) (l : List Nd) : cflat (l.map (nturn g)) = (cflat l).map (nturn g) := by
  induction l with
  | nil => rfl
  | cons d ds ih =>
    show cpart (nturn g d) ++ cflat (ds.map (nturn g)) = _
    rw [ih, nturn_cpart, ← List.map_append]
    rfl
theorem nturn_join (g : Int) (l : List Nd) : njoin (l.map (nturn g)) = nturn g (njoin l) := by
  unfold njoin
  rw [nturn_jflat]
  rcases jflat l with _ | ⟨x, _ | ⟨y, ys⟩⟩
  · rfl
  · rfl
  · simp [nturn, nturns_map]
theorem nturn_choose (g : Int) (l : List Nd) : nchoose (l.map (nturn g)) = nturn g (nchoose l) := by
  unfold nchoose
  rw [nturn_cflat]
  rcases cflat l with _ | ⟨x, _ | ⟨y, ys⟩⟩
  · rfl
  · rfl
  · simp [nturn, nturns_map]
/-- Depths and backs of what is joined, and chosen among. -/
theorem flat_backs (f : Nd → List Nd) (hf : ∀ d, nbackss (f d) = nbacks d) (l : List Nd) : nbackss (l.flatMap f) = nbackss l := by
  induction l with
  | nil => rfl
  | cons d ds ih => rw [List.flatMap_cons, nbackss_append, hf, ih, nbackss]
theorem flat_deeps (f : Nd → List Nd) (hf : ∀ d, ndeeps (f d) = ndeep d) (l : List Nd) : ndeeps (l.flatMap f) = ndeeps l := by
  induction l with
  | nil => rfl
  | cons d ds ih => rw [List.flatMap_cons, ndeeps_append, hf, ih, ndeeps]
theorem join_backs (l : List Nd) : nbacks (njoin l) = nbackss l := (nbacks_join l).trans (flat_backs _ jpart_backs l)
theorem join_deeps (l : List Nd) : ndeep (njoin l) = ndeeps l := (ndeep_join l).trans (flat_deeps _ jpart_deep l)
theorem choose_backs (l : List Nd) : nbacks (nchoose l) = nbackss l := (nbacks_choose l).trans (flat_backs _ cpart_backs l)
theorem choose_deeps (l : List Nd) : ndeep (nchoose l) = ndeeps l := (ndeep_choose l).trans (flat_deeps _ cpart_deep l)

/-- What may stand behind a regex: nothing, or the end of a branch. -/
def Stop (ere : Bool) (x : List UInt8) : Prop := x = [] ∨ ∃ c, (c = 41 ∨ c = 124) ∧ opAt ere x 0 c = true
theorem app_byt (s x : List UInt8) (k : Nat) : byt (s ++ x) (s.length + k) = byt x k := by rw [Nat.add_comm]; exact byt_app s x k
theorem app_drop (p t : List UInt8) (k : Nat) : (p ++ t).drop (p.length + k) = t.drop k := by rw [← List.drop_drop, List.drop_left]
theorem app_ch (p t : List UInt8) (k b : Nat) : chAt (p ++ t) (p.length + k) b = chAt t k b := by rw [← drop_ch, List.drop_left]
theorem app_es (p t : List UInt8) (k b : Nat) : esAt (p ++ t) (p.length + k) b = esAt t k b := by rw [← drop_es, List.drop_left]
theorem app_op (ere : Bool) (p t : List UInt8) (k b : Nat) : opAt ere (p ++ t) (p.length + k) b = opAt ere t k b := by rw [← drop_op, List.drop_left]
theorem ext_ch_lt (s x : List UInt8) (k b : Nat) (h : k < s.length) : chAt (s ++ x) k b = chAt s k b := by
  unfold chAt
  rw [byt_ext _ _ _ h, decide_eq_true h, decide_eq_true (show k < (s ++ x).length by rw [List.length_append]; omega)]
theorem ch_end (s : List UInt8) (k b : Nat) (h : s.length ≤ k) : chAt s k b = false := by unfold chAt; rw [decide_eq_false (by omega)]; rfl
theorem es_end (s : List UInt8) (k b : Nat) (h : s.length ≤ k + 1) : esAt s k b = false := by unfold esAt; rw [decide_eq_false (by omega)]; rfl
theorem op_end (ere : Bool) (s : List UInt8) (k b : Nat) (h : s.length ≤ k) : opAt ere s k b = false := by
  unfold opAt
  split
  · exact ch_end s k b h
  · exact es_end s k b (by omega)
theorem stop_ch {ere : Bool} {x : List UInt8} (h : Stop ere x) (b : Nat) (h1 : b ≠ 92) (h2 : b ≠ 41) (h3 : b ≠ 124) : chAt x 0 b = false := by
  rcases h with rfl | ⟨c, hc, h⟩
  · exact ch_end _ _ _ (Nat.le_refl _)
  · exact op_ch h (by omega) h1
theorem ext_ch {ere : Bool} {x : List UInt8} (hx : Stop ere x) (s : List UInt8) (k b : Nat) (hk : k ≤ s.length) (h1 : b ≠ 92) (h2 : b ≠ 41) (h3 : b ≠ 124) : chAt (s ++ x) k b = chAt s k b := by
  by_cases h : k < s.length
  · exact ext_ch_lt s x k b h
  · obtain rfl : k = s.length := by omega
    have := app_ch s x 0 b
    rw [Nat.add_zero] at this
    rw [this, stop_ch hx b h1 h2 h3, ch_end _ _ _ (Nat.le_refl _)]
theorem stop_byt {x : List UInt8} (h : Stop false x) : x = [] ∨ byt x 0 = 92 := by
  rcases h with rfl | ⟨c, hc, h⟩
  · exact .inl rfl
  · exact .inr (es_byt h).2.1
theorem ext_es_lt {x : List UInt8} (hx : Stop false x) (s : List UInt8) (k b : Nat) (hk : k < s.length) (hb : b ≠ 92) : esAt (s ++ x) k b = esAt s k b := by
  by_cases h : k + 1 < s.length
  · unfold esAt
    rw [byt_ext _ _ _ hk, byt_ext _ _ _ h, decide_eq_true h, decide_eq_true (show k + 1 < (s ++ x).length by rw [List.length_append]; omega)]
  · rw [es_end s k b (by omega)]
    rcases stop_byt hx with rfl | h92
    · rw [List.append_nil]; exact es_end s k b (by omega)
    · cases he : esAt (s ++ x) k b with
      | false => rfl
      | true =>
        have h2 := (es_byt he).2.2
        have h3 := app_byt s x 0
        rw [Nat.add_zero, show s.length = k + 1 by omega, h2, h92] at h3
        exact (hb h3).elim
theorem ext_op_lt {ere : Bool} {x : List UInt8} (hx : Stop ere x) (s : List UInt8) (k b : Nat) (hk : k < s.length) (hb : b ≠ 92) : opAt ere (s ++ x) k b = opAt ere s k b := by
  cases ere with
  | true => exact ext_ch_lt s x k b hk
  | false => exact ext_es_lt hx s k b hk hb
theorem stop_op {ere : Bool} {x : List UInt8} (h : Stop ere x) (b : Nat) (h2 : b ≠ 41) (h3 : b ≠ 124) : opAt ere x 0 b = false := by
  rcases h with rfl | ⟨c, hc, h⟩
  · exact op_end _ _ _ _ (Nat.le_refl _)
  · exact op_other h (by omega)
theorem ext_op {ere : Bool} {x : List UInt8} (hx : Stop ere x) (s : List UInt8) (k b : Nat) (hk : k ≤ s.length) (h1 : b ≠ 92) (h2 : b ≠ 41) (h3 : b ≠ 124) : opAt ere (s ++ x) k b = opAt ere s k b := by
  by_cases h : k < s.length
  · exact ext_op_lt hx s k b h h1
  · obtain rfl : k = s.length := by omega
    have := app_op ere s x 0 b
    rw [Nat.add_zero] at this
    rw [this, stop_op hx b h2 h3, op_end _ _ _ _ (Nat.le_refl _)]
/-- The end of a branch, as a $ asks. -/
theorem ext_ends {x : List UInt8} (hx : Stop false x) (s : List UInt8) (k : Nat) (hk : k ≤ s.length) : endsAt (s ++ x) k = endsAt s k := by
  by_cases h : k < s.length
  · unfold endsAt
    rw [ext_es_lt hx s k 124 h (by decide), ext_es_lt hx s k 41 h (by decide), decide_eq_false (show ¬ s.length ≤ k by omega), decide_eq_false (show ¬ (s ++ x).length ≤ k by rw [List.length_append]; omega)]
  · obtain rfl : k = s.length := by omega
    rw [show endsAt s s.length = true by unfold endsAt; rw [decide_eq_true (Nat.le_refl _)]; rfl]
    rcases hx with rfl | ⟨c, hc, h⟩
    · rw [List.append_nil]; unfold endsAt; rw [decide_eq_true (Nat.le_refl _)]; rfl
    · have h0 := app_es s x 0 c
      rw [Nat.add_zero] at h0
      have h1 : esAt (s ++ x) s.length c = true := h0.trans h
      unfold endsAt
      rcases hc with rfl | rfl
      · rw [h1, Bool.or_true]
      · rw [h1, Bool.or_true]; rfl
theorem ext_dig {ere : Bool} {x : List UInt8} (hx : Stop ere x) (s : List UInt8) (k : Nat) (hk : k ≤ s.length) : isDig (s ++ x) k = isDig s k := by
  by_cases h : k < s.length
  · unfold isDig
    rw [byt_ext _ _ _ h, decide_eq_true h, decide_eq_true (show k < (s ++ x).length by rw [List.length_append]; omega)]
  · obtain rfl : k = s.length := by omega
    rw [show isDig s s.length = false by unfold isDig; rw [decide_eq_false (Nat.lt_irrefl _)]; rfl]
    cases hd : isDig (s ++ x) s.length with
    | false => rfl
    | true =>
      unfold isDig at hd
      simp only [Bool.and_eq_true, decide_eq_true_eq] at hd
      have h1 := stop_ch hx (byt (s ++ x) s.length) (by omega) (by omega) (by omega)
      have h2 := app_ch s x 0 (byt (s ++ x) s.length)
      rw [Nat.add_zero, h1] at h2
      unfold chAt at h2
      rw [decide_eq_true hd.1.1, decide_eq_true rfl] at h2
      cases h2
theorem dig_lt {s : List UInt8} {k : Nat} (h : isDig s k = true) : k < s.length := by
  unfold isDig at h
  simp only [Bool.and_eq_true, decide_eq_true_eq] at h
  exact h.1.1
theorem ext_digs {ere : Bool} {x : List UInt8} (hx : Stop ere x) (s : List UInt8) : ∀ (n k v : Nat), k ≤ s.length → digs (s ++ x) n k v = digs s n k v := by
  intro n
  induction n with
  | zero => intro k v _; rfl
  | succ n ih =>
    intro k v hk
    rw [digs, digs, ext_dig hx s k hk]
    split
    · rename_i h
      have hl := dig_lt h
      rw [ih _ _ (by omega), byt_ext _ _ _ hl]
    · rfl
theorem digs_in (s : List UInt8) : ∀ (n k v : Nat), k ≤ s.length → k + (digs s n k v).1 ≤ s.length := by
  intro n
  induction n with
  | zero => intro k v h; exact h
  | succ n ih =>
    intro k v hk
    rw [digs]
    split
    · rename_i h
      have := ih (k + 1) (10 * v + (byt s k - 48)) (dig_lt h)
      simp only
      omega
    · exact hk
theorem num_in (s : List UInt8) (k : Nat) (hk : k ≤ s.length) : k + (numAt s k).2 ≤ s.length := by
  unfold numAt
  split
  · exact digs_in s 3 k 0 hk
  · exact hk
theorem ext_num {ere : Bool} {x : List UInt8} (hx : Stop ere x) (s : List UInt8) (k : Nat) (hk : k ≤ s.length) : numAt (s ++ x) k = numAt s k := by
  unfold numAt
  rw [ext_digs hx s 3 k 0 hk]
theorem ext_intv {ere : Bool} {x : List UInt8} (hx : Stop ere x) (s : List UInt8) (k : Nat) (hk : k ≤ s.length) : intv ere (s ++ x) k = intv ere s k := by
  have hn := num_in s k hk
  unfold intv
  simp only
  rw [ext_num hx s k hk, ext_ch hx s _ 44 hn (by decide) (by decide) (by decide)]
  cases h44 : chAt s (k + (numAt s k).2) 44 with
  | false =>
    simp only [Bool.false_eq_true, if_false]
    rw [ext_op hx s _ 125 hn (by decide) (by decide) (by decide)]
  | true =>
    have h1 := (ch_byt h44).1
    have hn2 := num_in s (k + (numAt s k).2 + 1) h1
    simp only [if_true]
    rw [ext_num hx s _ h1]
    split
    · rfl
    · split
      · simp only
        rw [ext_op hx s _ 125 h1 (by decide) (by decide) (by decide)]
      · simp only
        rw [ext_op hx s _ 125 hn2 (by decide) (by decide) (by decide)]
def ReRep.up (P : Nat) : ReRep → ReRep
  | .none => .none
  | .bad => .bad
  | .some a b c j => .some a b c (P + j)
theorem ext_rep {ere : Bool} {x : List UInt8} (hx : Stop ere x) (s : List UInt8) (k : Nat) (hk : k ≤ s.length) : repAt ere (s ++ x) k = repAt ere s k := by
  unfold repAt
  rw [ext_ch hx s k 42 hk (by decide) (by decide) (by decide), ext_op hx s k 43 hk (by decide) (by decide) (by decide), ext_op hx s k 63 hk (by decide) (by decide) (by decide), ext_op hx s k 123 hk (by decide) (by decide) (by decide)]
  cases h : opAt ere s k 123 with
  | false => rfl
  | true => rw [ext_intv hx s _ (op_len h)]
theorem app_intv (ere : Bool) (p t : List UInt8) (k : Nat) : intv ere (p ++ t) (p.length + k) = (intv ere t k).map fun q => (q.1, q.2.1, p.length + q.2.2) := by
  rw [intv_drop ere (p ++ t), intv_drop ere t k, app_drop, Option.map_map]
  congr 1
  funext q
  simp only [Function.comp, Nat.add_assoc]
theorem app_rep (ere : Bool) (p t : List UInt8) (k : Nat) : repAt ere (p ++ t) (p.length + k) = (repAt ere t k).up p.length := by
  unfold repAt
  rw [app_ch, app_op, app_op, app_op]
  split
  · rfl
  · split
    · rw [Nat.add_assoc]; rfl
    · split
      · rw [Nat.add_assoc]; rfl
      · split
        · rw [Nat.add_assoc, app_intv]
          cases intv ere t (k + opLen ere) with
          | none => rfl
          | some q => obtain ⟨a, b, c⟩ := q; rfl
        · rfl
theorem em_rep {ere : Bool} {x : List UInt8} (hx : Stop ere x) (p s : List UInt8) (k : Nat) (hk : k ≤ s.length) : repAt ere (p ++ (s ++ x)) (p.length + k) = (repAt ere s k).up p.length := by
  rw [app_rep, ext_rep hx s k hk]
/-- A bracket. -/
theorem prs_some (s : List UInt8) (k : Nat) (hk : k ≤ s.length) (h : (prs s (k : Int)).2.2 = 0) : ∃ t j, rst s true (if car s k then k + 1 else k) oz = .ok (t, j) ∧ prs s (k : Int) = ((if car s k then ~~~t else t), (j : Int), 0) := by
  cases hr : rst s true (if car s k then k + 1 else k) oz with
  | ok y =>
    obtain ⟨t, j⟩ := y
    exact ⟨t, j, rfl, prs_ok s k hk t j hr⟩
  | error y =>
    obtain ⟨e, q⟩ := y
    rw [prs_err s k hk e q hr] at h
    exact (rst_end _ _ _ _ _ _ hr h).elim
theorem em_prs (p s x : List UInt8) (k : Nat) (hk : k ≤ s.length) (h : (prs s (k : Int)).2.2 = 0) :
    ∃ t j, j ≤ s.length ∧ prs s (k : Int) = (t, ((j : Nat) : Int), 0) ∧ prs (p ++ (s ++ x)) ((p.length + k : Nat) : Int) = (t, ((p.length + j : Nat) : Int), 0) := by
  obtain ⟨t, j, hr, hp⟩ := prs_some s k hk h
  have hl := rst_lt _ _ _ _ _ _ hr
  have hk2 : k < s.length := by
    by_cases hc : car s k = true
    · rw [if_pos hc] at hl; omega
    · rw [if_neg hc] at hl; exact hl
  have hc : car (p ++ (s ++ x)) (p.length + k) = car s k := by
    unfold car
    rw [app_byt, byt_ext _ _ _ hk2, decide_eq_true hk2, decide_eq_true (show p.length + k < (p ++ (s ++ x)).length by simp only [List.length_append]; omega)]
  have h2 := rst_app p (s ++ x) true (if car s k then k + 1 else k) oz
  rw [rst_ext s x _ _ _ _ _ hr] at h2
  refine ⟨_, j, rst_le _ _ _ _ _ _ hr, hp, ?_⟩
  have h3 := prs_ok (p ++ (s ++ x)) (p.length + k) (by simp only [List.length_append]; omega) t (p.length + j) (by
    rw [hc, show (if car s k = true then p.length + k + 1 else p.length + k) = (if car s k = true then k + 1 else k) + p.length by split <;> omega, Nat.add_comm p.length j]
    exact h2)
  rw [h3, hc]
end Go.Proofs.YtacpoandhocmhaaGreatDoor
namespace Go.Proofs.YtacpoandhocmhaaGreatDoor

/-- What is read of parts. -/
theorem backss_mem {l : List Nd} {d : Nd} (h : nbackss l = false) (hd : d ∈ l) : nbacks d = false := by
  induction l with
  | nil => cases hd
  | cons e es ih =>
    rw [nbackss, Bool.or_eq_false_iff] at h
    rcases List.mem_cons.1 hd with rfl | hd
    · exact h.1
    · exact ih h.2 hd
theorem deeps_mem {l : List Nd} {d : Nd} (hd : d ∈ l) : ndeep d ≤ ndeeps l := by
  induction l with
  | nil => cases hd
  | cons e es ih =>
    rw [ndeeps]
    rcases List.mem_cons.1 hd with rfl | hd
    · omega
    · have := ih hd; omega
theorem repM_parts (ere : Bool) (s : List UInt8) : ∀ (n : Nat) (st : ReSt) (d : Nd) (st' : ReSt) (d' : Nd), repM ere s n st d = .ok (st', d') → nbacks d' = nbacks d ∧ ndeep d' = ndeep d := by
  intro n
  induction n with
  | zero => intro st d st' d' h; cases h
  | succ n ih =>
    intro st d st' d' h
    rw [repM] at h
    cases hr : repAt ere s st.pos with
    | none =>
      rw [hr] at h
      injection h with h
      injection h with _ h2
      subst h2
      exact ⟨rfl, rfl⟩
    | bad => rw [hr] at h; cases h
    | some mn mx c j =>
      rw [hr] at h
      have := ih _ _ _ _ h
      simp only [nbacks, ndeep] at this
      exact this
theorem branch_parts (ere : Bool) (s : List UInt8) (sub : Option (ReSt → ReRes (ReSt × Nd))) (top : Bool) (begin : Nat) : ∀ (n : Nat) (st : ReSt) (parts : List Nd) (front : Bool) (st' : ReSt) (d : Nd),
    branchM ere s sub top begin n st parts front = .ok (st', d) → ∀ y ∈ parts, (nbacks d = false → nbacks y = false) ∧ ndeep y ≤ ndeep d := by
  intro n
  induction n with
  | zero => intro st parts front st' d h; cases h
  | succ n ih =>
    intro st parts front st' d h y hy
    have hy2 : ∀ z, y ∈ parts ++ [z] := fun z => List.mem_append_left _ hy
    rw [branchM] at h
    split at h
    · injection h with h
      injection h with _ h2
      subst h2
      exact ⟨fun hb => backss_mem (by rw [← join_backs]; exact hb) hy, by rw [join_deeps]; exact deeps_mem hy⟩
    · split at h
      · exact ih _ _ _ _ _ h y (hy2 _)
      · split at h
        · exact ih _ _ _ _ _ h y (hy2 _)
        · split at h
          · cases h
          · split at h
            · cases h
            · split at h
              · cases h
              · exact ih _ _ _ _ _ h y (hy2 _)
theorem branch_stop (ere : Bool) (s : List UInt8) (sub : Option (ReSt → ReRes (ReSt × Nd))) (begin : Nat) : ∀ (n : Nat) (st : ReSt) (parts : List Nd) (front : Bool) (st' : ReSt) (d : Nd),
    branchM ere s sub false begin n st parts front = .ok (st', d) → s.length ≤ st'.pos ∨ opAt ere s st'.pos 124 = true ∨ opAt ere s st'.pos 41 = true := by
  intro n
  induction n with
  | zero => intro st parts front st' d h; cases h
  | succ n ih =>
    intro st parts front st' d h
    rw [branchM] at h
    split at h
    · rename_i he
      injection h with h
      injection h with h1 _
      subst h1
      simp only [Bool.or_eq_true, decide_eq_true_eq, Bool.and_eq_true, Bool.not_false, and_true] at he
      rcases he with (h | h) | h
      · exact .inl h
      · exact .inr (.inl h)
      · exact .inr (.inr h)
    · split at h
      · exact ih _ _ _ _ _ h
      · split at h
        · exact ih _ _ _ _ _ h
        · split at h
          · cases h
          · split at h
            · cases h
            · split at h
              · cases h
              · exact ih _ _ _ _ _ h
theorem choice_parts (ere : Bool) (s : List UInt8) (sub : Option (ReSt → ReRes (ReSt × Nd))) (top : Bool) : ∀ (n : Nat) (st : ReSt) (l : List Nd) (st' : ReSt) (d : Nd),
    choiceM ere s sub top n st l = .ok (st', d) → ∀ y ∈ l, (nbacks d = false → nbacks y = false) ∧ ndeep y ≤ ndeep d := by
  intro n
  induction n with
  | zero => intro st l st' d h; cases h
  | succ n ih =>
    intro st l st' d h y hy
    rw [choiceM] at h
    split at h
    · cases h
    · split at h
      · exact ih _ _ _ _ h y (List.mem_append_left _ hy)
      · injection h with h
        injection h with _ h2
        subst h2
        exact ⟨fun hb => backss_mem (by rw [← choose_backs]; exact hb) (List.mem_append_left _ hy), by rw [choose_deeps]; exact deeps_mem (List.mem_append_left _ hy)⟩
/-- A reading of a text alone, and one of it in a longer text. -/
def Rel (P g : Nat) (M : List (Nat × Nat)) (st st' : ReSt) : Prop := st'.pos = P + st.pos ∧ st'.opened = g + st.opened ∧ st'.marks = M ++ st.marks.map fun m => (P + m.1, m.2)
theorem Rel.mark {P g : Nat} {M : List (Nat × Nat)} {st st' : ReSt} (h : Rel P g M st st') (c : Nat) : Rel P g M (st.mark c) (st'.mark c) := by
  obtain ⟨h1, h2, h3⟩ := h
  refine ⟨h1, h2, ?_⟩
  show st'.marks ++ [(st'.pos, c)] = M ++ (st.marks ++ [(st.pos, c)]).map _
  rw [h3, h1, List.map_append, List.append_assoc]
  rfl
theorem Rel.go {P g : Nat} {M : List (Nat × Nat)} {st st' : ReSt} (h : Rel P g M st st') (j : Nat) : Rel P g M (st.to j) (st'.to (P + j)) := ⟨rfl, h.2.1, h.2.2⟩
/-- One reader follows another, up to a depth. -/
def SimF (P g : Nat) (M : List (Nat × Nat)) (s : List UInt8) (D : Nat) (f f' : ReSt → ReRes (ReSt × Nd)) : Prop :=
  ∀ st st1 d, f st = .ok (st1, d) → st.pos ≤ s.length → st1.pos < s.length → nbacks d = false → ndeep d ≤ D → ∀ st', Rel P g M st st' → ∃ st1', f' st' = .ok (st1', nturn g d) ∧ Rel P g M st1 st1'
def SubSim (P g : Nat) (M : List (Nat × Nat)) (s : List UInt8) (D : Nat) (sub sub' : Option (ReSt → ReRes (ReSt × Nd))) : Prop :=
  ∀ f, sub = some f → 1 ≤ D → ∃ f', sub' = some f' ∧ SimF P g M s (D - 1) f f'
theorem em_esc {ere : Bool} {P : Nat} (g : Nat) (M : List (Nat × Nat)) (st st1 : ReSt) (c : Nat) (d : Nd) (h : escM ere st c = .ok (st1, d)) (hb : nbacks d = false) (st' : ReSt) (hr : Rel P g M st st') : ∃ st1', escM ere st' c = .ok (st1', nturn g d) ∧ Rel P g M st1 st1' := by
  unfold escM at h ⊢
  split at h
  · split at h
    · injection h with h
      injection h with h1 h2
      subst h2
      cases hb
    · cases h
  · rename_i hnd
    rw [if_neg hnd]
    cases he : escSet c with
    | none => rw [he] at h; cases h
    | some q =>
      obtain ⟨t, m⟩ := q
      rw [he] at h
      injection h with h
      injection h with h1 h2
      subst h1 h2
      rw [hr.1, Nat.add_assoc]
      cases m with
      | true => exact ⟨_, rfl, (hr.mark c).go (st.pos + 2)⟩
      | false => exact ⟨_, rfl, hr.go (st.pos + 2)⟩
section
variable {ere : Bool} {p s x : List UInt8} (hx : Stop ere x) (g : Nat) (M : List (Nat × Nat))
include hx
theorem em_repM : ∀ (n n' : Nat), n ≤ n' → ∀ (st : ReSt) (d : Nd) (st1 : ReSt) (d1 : Nd), repM ere s n st d = .ok (st1, d1) → st.pos ≤ s.length → ∀ st', Rel p.length g M st st' → ∃ st1', repM ere (p ++ (s ++ x)) n' st' (nturn g d) = .ok (st1', nturn g d1) ∧ Rel p.length g M st1 st1' := by
  intro n
  induction n with
  | zero => intro n' _ st d st1 d1 h; cases h
  | succ n ih =>
    intro n' hn st d st1 d1 h hp st' hr
    obtain ⟨n', rfl⟩ : ∃ m, n' = m + 1 := ⟨n' - 1, by omega⟩
    rw [repM] at h ⊢
    rw [hr.1, em_rep hx p s st.pos hp]
    cases hra : repAt ere s st.pos with
    | none =>
      rw [hra] at h
      injection h with h
      injection h with h1 h2
      subst h1 h2
      exact ⟨st', rfl, hr⟩
    | bad => rw [hra] at h; cases h
    | some mn mx c j =>
      rw [hra] at h
      have hj := (rep_mv _ _ _ _ _ _ _ hra).2
      simp only [ReRep.up]
      simp only at h
      by_cases hc : c = 0
      · rw [if_pos hc] at h ⊢
        exact ih n' (by omega) (st.to j) (.rep d mn mx) st1 d1 h hj _ (hr.go j)
      · rw [if_neg hc] at h ⊢
        exact ih n' (by omega) ((st.mark c).to j) (.rep d mn mx) st1 d1 h hj _ ((hr.mark c).go j)
theorem em_atom (D : Nat) (sub sub' : Option (ReSt → ReRes (ReSt × Nd))) (hsub : SubSim p.length g M s D sub sub') (hmv : SubMv s sub) (st st1 : ReSt) (d : Nd) (hl : st.pos < s.length) (h : atomM ere s sub st = .ok (st1, d)) (hb : nbacks d = false) (hD : ndeep d ≤ D) (st' : ReSt) (hr : Rel p.length g M st st') :
    ∃ st1', atomM ere (p ++ (s ++ x)) sub' st' = .ok (st1', nturn g d) ∧ Rel p.length g M st1 st1' := by
  unfold atomM at h ⊢
  have hlt' : ∀ b, chAt (p ++ (s ++ x)) st'.pos b = chAt s st.pos b := fun b => by rw [hr.1, app_ch, ext_ch_lt _ _ _ _ hl]
  have hop' : ∀ b, b ≠ 92 → opAt ere (p ++ (s ++ x)) st'.pos b = opAt ere s st.pos b := fun b hb => by rw [hr.1, app_op, ext_op_lt hx _ _ _ hl hb]
  rw [hop' 40 (by decide), hop' 41 (by decide), hlt', hlt', hlt']
  split at h
  · rename_i h40
    rw [if_pos h40]
    unfold grpM at h ⊢
    cases sub with
    | none => cases h
    | some f =>
      simp only at h
      cases hf : f { st with pos := st.pos + opLen ere, opened := st.opened + 1 } with
      | error e => rw [hf] at h; cases h
      | ok q =>
        obtain ⟨st2, d2⟩ := q
        rw [hf] at h
        simp only at h
        cases h41 : opAt ere s st2.pos 41 with
        | false => rw [h41] at h; cases h
        | true =>
          rw [h41] at h
          injection h with h
          injection h with h1 h2
          subst h1 h2
          simp only [nbacks] at hb
          simp only [ndeep] at hD
          obtain ⟨f', rfl, hs⟩ := hsub f rfl (by omega)
          obtain ⟨st2', h2', r2⟩ := hs _ _ _ hf (op_len h40) (op_in h41) hb (by omega) { st' with pos := st'.pos + opLen ere, opened := st'.opened + 1 } ⟨by show st'.pos + opLen ere = p.length + (st.pos + opLen ere); rw [hr.1, Nat.add_assoc], by show st'.opened + 1 = g + (st.opened + 1); rw [hr.2.1, Nat.add_assoc], hr.2.2⟩
          simp only [h2']
          have h41' : opAt ere (p ++ (s ++ x)) st2'.pos 41 = true := by rw [r2.1, app_op, ext_op_lt hx _ _ _ (op_in h41) (by decide)]; exact h41
          rw [if_pos h41']
          refine ⟨{ st2' with pos := st2'.pos + opLen ere, closed := st2'.closed ++ [(st'.opened : Int) + 1] }, ?_, ⟨?_, r2.2.1, r2.2.2⟩⟩
          · rw [nturn, hr.2.1]
            rw [show ((g + st.opened : Nat) : Int) + 1 = (st.opened : Int) + 1 + (g : Int) by omega]
          · show st2'.pos + opLen ere = p.length + (st2.pos + opLen ere)
            rw [r2.1, Nat.add_assoc]
  · rename_i h40
    rw [if_neg h40]
    split at h
    · cases h
    · rename_i h41
      rw [if_neg h41]
      split at h
      · rename_i h91
        rw [if_pos h91]
        split at h
        · rename_i hz
          injection h with h
          injection h with h1 h2
          subst h1 h2
          have e1 : (prs s ((st.pos + 1 : Nat) : Int)).2.2 = 0 := hz
          obtain ⟨t, j, hj, q1, q2⟩ := em_prs p s x (st.pos + 1) (by omega) e1
          have q1' : prs s ((st.pos : Int) + 1) = (t, (j : Int), 0) := q1
          have q2' : prs (p ++ (s ++ x)) ((st'.pos : Int) + 1) = (t, ((p.length + j : Nat) : Int), 0) := by
            rw [hr.1]
            exact q2
          rw [q1', q2', if_pos rfl]
          exact ⟨_, rfl, hr.go j⟩
        · cases h
      · rename_i h91
        rw [if_neg h91]
        split at h
        · rename_i h46
          rw [if_pos h46]
          injection h with h
          injection h with h1 h2
          subst h1 h2
          rw [hr.1, Nat.add_assoc]
          exact ⟨_, rfl, hr.go (st.pos + 1)⟩
        · rename_i h46
          rw [if_neg h46]
          split at h
          · rename_i h92
            rw [if_pos h92]
            split at h
            · rename_i hl2
              have hb2 : byt (p ++ (s ++ x)) (st'.pos + 1) = byt s (st.pos + 1) := by rw [hr.1, Nat.add_assoc, app_byt, byt_ext _ _ _ hl2]
              rw [if_pos (show st'.pos + 1 < (p ++ (s ++ x)).length by rw [hr.1]; simp only [List.length_append]; omega), hb2]
              exact em_esc g M st st1 _ d h hb st' hr
            · cases h
          · rename_i h92
            rw [if_neg h92]
            injection h with h
            injection h with h1 h2
            subst h1 h2
            have hb2 : byt (p ++ (s ++ x)) st'.pos = byt s st.pos := by rw [hr.1, app_byt, byt_ext _ _ _ hl]
            rw [hb2, hr.1, Nat.add_assoc]
            exact ⟨_, rfl, hr.go (st.pos + 1)⟩
theorem em_branch (D : Nat) (sub sub' : Option (ReSt → ReRes (ReSt × Nd))) (hsub : SubSim p.length g M s D sub sub') (hmv : SubMv s sub) (begin : Nat) : ∀ (n n' : Nat), n ≤ n' → ∀ (st : ReSt) (parts : List Nd) (front : Bool) (st1 : ReSt) (d : Nd), st.pos ≤ s.length →
    branchM ere s sub false begin n st parts front = .ok (st1, d) → nbacks d = false → ndeep d ≤ D → ∀ st', Rel p.length g M st st' →
    ∃ st1', branchM ere (p ++ (s ++ x)) sub' false (p.length + begin) n' st' (parts.map (nturn g)) front = .ok (st1', nturn g d) ∧ Rel p.length g M st1 st1' := by
  intro n
  induction n with
  | zero => intro n' _ st parts front st1 d _ h; cases h
  | succ n ih =>
    intro n' hn st parts front st1 d hp h hb hD st' hr
    obtain ⟨n', rfl⟩ : ∃ m, n' = m + 1 := ⟨n' - 1, by omega⟩
    rw [branchM] at h ⊢
    by_cases hend : s.length ≤ st.pos
    · have he : (decide (s.length ≤ st.pos) || opAt ere s st.pos 124 || (opAt ere s st.pos 41 && !false)) = true := by rw [decide_eq_true hend]; rfl
      rw [if_pos he] at h
      injection h with h
      injection h with h1 h2
      subst h1 h2
      have hpe : st.pos = s.length := by omega
      have he' : (decide ((p ++ (s ++ x)).length ≤ st'.pos) || opAt ere (p ++ (s ++ x)) st'.pos 124 || (opAt ere (p ++ (s ++ x)) st'.pos 41 && !false)) = true := by
        rw [hr.1, hpe]
        rcases hx with rfl | ⟨c, hc, hop⟩
        · rw [decide_eq_true (by simp only [List.length_append, List.length_nil]; omega)]; rfl
        · have e : opAt ere (p ++ (s ++ x)) (p.length + s.length) c = true := by
            rw [app_op]
            have := app_op ere s x 0 c
            rw [Nat.add_zero] at this
            rw [this]
            exact hop
          rcases hc with rfl | rfl <;> simp [e]
      rw [if_pos he', nturn_join]
      exact ⟨st', rfl, hr⟩
    · have hlt : st.pos < s.length := by omega
      have hop' : ∀ b, b ≠ 92 → opAt ere (p ++ (s ++ x)) st'.pos b = opAt ere s st.pos b := fun b hb => by rw [hr.1, app_op, ext_op_lt hx _ _ _ hlt hb]
      have hch' : ∀ b, chAt (p ++ (s ++ x)) st'.pos b = chAt s st.pos b := fun b => by rw [hr.1, app_ch, ext_ch_lt _ _ _ _ hlt]
      have hle' : decide ((p ++ (s ++ x)).length ≤ st'.pos) = decide (s.length ≤ st.pos) := by
        rw [decide_eq_false hend, decide_eq_false]
        rw [hr.1]
        simp only [List.length_append]
        omega
      have hbe : decide (st'.pos = p.length + begin) = decide (st.pos = begin) := decide_eq_decide.2 (by rw [hr.1]; omega)
      have hen : (ere || endsAt (p ++ (s ++ x)) (st'.pos + 1)) = (ere || endsAt s (st.pos + 1)) := by
        cases ere with
        | true => rfl
        | false =>
          rw [Bool.false_or, Bool.false_or, hr.1, Nat.add_assoc]
          have e1 : endsAt (p ++ (s ++ x)) (p.length + (st.pos + 1)) = endsAt (s ++ x) (st.pos + 1) := by
            unfold endsAt
            rw [app_es, app_es, show decide ((p ++ (s ++ x)).length ≤ p.length + (st.pos + 1)) = decide ((s ++ x).length ≤ st.pos + 1) from decide_eq_decide.2 (by simp only [List.length_append]; omega)]
          rw [e1, ext_ends hx s _ hlt]
      rw [hle', hop' 124 (by decide), hop' 41 (by decide), hch' 94, hbe, hch' 36, hen, hop' 123 (by decide), hop' 43 (by decide), hop' 63 (by decide), hch' 42]
      split at h
      · rename_i he
        rw [if_pos he]
        injection h with h
        injection h with h1 h2
        subst h1 h2
        rw [nturn_join]
        exact ⟨st', rfl, hr⟩
      · rename_i he
        rw [if_neg he]
        split at h
        · rename_i h94
          rw [if_pos h94]
          obtain ⟨st1', e, r⟩ := ih n' (by omega) _ _ _ _ _ (show (st.to (st.pos + 1)).pos ≤ s.length from hlt) h hb hD _ (hr.go (st.pos + 1))
          refine ⟨st1', ?_, r⟩
          rw [← e, hr.1, Nat.add_assoc, List.map_append]
          rfl
        · rename_i h94
          rw [if_neg h94]
          split at h
          · rename_i h36
            rw [if_pos h36]
            obtain ⟨st1', e, r⟩ := ih n' (by omega) _ _ _ _ _ (show (st.to (st.pos + 1)).pos ≤ s.length from hlt) h hb hD _ (hr.go (st.pos + 1))
            refine ⟨st1', ?_, r⟩
            rw [← e, hr.1, Nat.add_assoc, List.map_append]
            rfl
          · rename_i h36
            rw [if_neg h36]
            split at h
            · cases h
            · rename_i hfr
              rw [if_neg hfr]
              cases ha : atomM ere s sub st with
              | error e => rw [ha] at h; cases h
              | ok q =>
                obtain ⟨st2, d2⟩ := q
                rw [ha] at h
                simp only at h
                cases hrp : repM ere s (s.length + 1) st2 d2 with
                | error e => rw [hrp] at h; cases h
                | ok q3 =>
                  obtain ⟨st3, d3⟩ := q3
                  rw [hrp] at h
                  simp only at h
                  obtain ⟨hb3, hD3⟩ := branch_parts ere s sub false begin _ _ _ _ _ _ h d3 (by simp)
                  have hr2 := repM_parts ere s _ _ _ _ _ hrp
                  have m2 := atom_mv ere s sub hmv st st2 d2 hlt ha
                  have m3 := repM_mv ere s _ _ _ _ _ m2.2 hrp
                  have hb3' := hb3 hb
                  obtain ⟨st2', e2, r2⟩ := em_atom hx g M D sub sub' hsub hmv st st2 d2 hlt ha (by rw [← hr2.1]; exact hb3') (by rw [← hr2.2]; exact Nat.le_trans hD3 hD) st' hr
                  rw [e2]
                  simp only
                  obtain ⟨st3', e3, r3⟩ := em_repM hx g M (s.length + 1) ((p ++ (s ++ x)).length + 1) (by simp only [List.length_append]; omega) st2 d2 st3 d3 hrp m2.2 st2' r2
                  rw [e3]
                  simp only
                  obtain ⟨st1', e, r⟩ := ih n' (by omega) _ _ _ _ _ m3.2 h hb hD _ r3
                  refine ⟨st1', ?_, r⟩
                  rw [← e, List.map_append]
                  rfl
theorem em_choice (D : Nat) (sub sub' : Option (ReSt → ReRes (ReSt × Nd))) (hsub : SubSim p.length g M s D sub sub') (hmv : SubMv s sub) (hok : SubOk sub) : ∀ (n n' : Nat), n ≤ n' → ∀ (st : ReSt) (l : List Nd) (st1 : ReSt) (d : Nd), st.pos ≤ s.length →
    choiceM ere s sub false n st l = .ok (st1, d) → nbacks d = false → ndeep d ≤ D → ∀ st', Rel p.length g M st st' → ∀ l0 : List Nd,
    ∃ (l1 : List Nd) (st1' : ReSt) (m : Nat), n' ≤ m + n ∧ st1.pos ≤ s.length ∧ (s.length ≤ st1.pos ∨ opAt ere s st1.pos 41 = true) ∧ opAt ere s st1.pos 124 = false ∧ d = nchoose (l ++ l1) ∧ l1 ≠ [] ∧ l1.all inAlt = true ∧ Rel p.length g M st1 st1' ∧
      choiceM ere (p ++ (s ++ x)) sub' false n' st' (l0 ++ l.map (nturn g)) = (if opAt ere (p ++ (s ++ x)) st1'.pos 124 then choiceM ere (p ++ (s ++ x)) sub' false m ((if ere then st1' else st1'.mark 124).to (st1'.pos + opLen ere)) (l0 ++ (l ++ l1).map (nturn g)) else .ok (st1', nchoose (l0 ++ (l ++ l1).map (nturn g)))) := by
  intro n
  induction n with
  | zero => intro n' _ st l st1 d _ h; cases h
  | succ n ih =>
    intro n' hn st l st1 d hp h hb hD st' hr l0
    obtain ⟨n', rfl⟩ : ∃ m, n' = m + 1 := ⟨n' - 1, by omega⟩
    rw [choiceM] at h
    cases hbr : branchM ere s sub false st.pos (s.length + 1) st [] true with
    | error e => rw [hbr] at h; cases h
    | ok q =>
      obtain ⟨st2, d2⟩ := q
      rw [hbr] at h
      simp only at h
      have hal := (branch_takes ere s sub hok false st.pos _ _ _ _ _ _ st (show TakesL [] st st from rfl) rfl hbr).2
      have hmvb := (branch_mv ere s sub hmv false st.pos _ _ _ _ _ _ hp hbr).2
      have hpart : (nbacks d = false → nbacks d2 = false) ∧ ndeep d2 ≤ ndeep d := by
        split at h
        · exact choice_parts ere s sub false _ _ _ _ _ h d2 (by simp)
        · injection h with h
          injection h with _ h2
          subst h2
          exact ⟨fun hb => backss_mem (by rw [← choose_backs]; exact hb) (by simp), by rw [choose_deeps]; exact deeps_mem (by simp)⟩
      obtain ⟨st2', e2, r2⟩ := em_branch hx g M D sub sub' hsub hmv st.pos (s.length + 1) ((p ++ (s ++ x)).length + 1) (by simp only [List.length_append]; omega) st [] true st2 d2 hp hbr (hpart.1 hb) (Nat.le_trans hpart.2 hD) st' hr
      have e2' : branchM ere (p ++ (s ++ x)) sub' false st'.pos ((p ++ (s ++ x)).length + 1) st' [] true = .ok (st2', nturn g d2) := by rw [hr.1]; exact e2
      cases h124 : opAt ere s st2.pos 124 with
      | true =>
        rw [h124, if_pos rfl] at h
        have h124' : opAt ere (p ++ (s ++ x)) st2'.pos 124 = true := by rw [r2.1, app_op, ext_op_lt hx _ _ _ (op_in h124) (by decide)]; exact h124
        have r3 : Rel p.length g M ((if ere then st2 else st2.mark 124).to (st2.pos + opLen ere)) ((if ere then st2' else st2'.mark 124).to (st2'.pos + opLen ere)) := by
          rw [r2.1, Nat.add_assoc]
          cases ere with
          | true => exact r2.go _
          | false => exact (r2.mark 124).go _
        obtain ⟨l1, st1', m, hm, a1, a2, a3, a4, a5, a6, a7, a8⟩ := ih n' (by omega) _ _ _ _ (show ((if ere then st2 else st2.mark 124).to (st2.pos + opLen ere)).pos ≤ s.length from op_len h124) h hb hD _ r3 l0
        refine ⟨d2 :: l1, st1', m, by omega, a1, a2, a3, by rw [a4, List.append_assoc]; rfl, by simp, by rw [List.all_cons, hal, a6]; rfl, a7, ?_⟩
        rw [choiceM, e2']
        simp only
        rw [if_pos h124', List.append_assoc, show l.map (nturn g) ++ [nturn g d2] = (l ++ [d2]).map (nturn g) by rw [List.map_append]; rfl, a8, List.append_assoc]
        rfl
      | false =>
        rw [h124] at h
        simp only [Bool.false_eq_true, if_false] at h
        injection h with h
        injection h with h1 h2
        subst h1 h2
        refine ⟨[d2], st2', n', by omega, hmvb, ?_, h124, rfl, by simp, by rw [List.all_cons, hal]; rfl, r2, ?_⟩
        · rcases branch_stop ere s sub st.pos _ _ _ _ _ _ hbr with k | k | k
          · exact .inl k
          · rw [h124] at k; cases k
          · exact .inr k
        · rw [choiceM, e2']
          simp only
          rw [List.append_assoc, show l.map (nturn g) ++ [nturn g d2] = (l ++ [d2]).map (nturn g) by rw [List.map_append]; rfl]
theorem em_reg : ∀ (k k' D : Nat), (D ≤ k' ∨ k ≤ k') → SimF p.length g M s D (regM ere s k) (regM ere (p ++ (s ++ x)) k') := by
  intro k
  induction k with
  | zero =>
    intro k' D _ st st1 d h hp hlt hb hD st' hr
    rw [regM] at h
    obtain ⟨sub', hs'⟩ : ∃ sub', regM ere (p ++ (s ++ x)) k' st' = choiceM ere (p ++ (s ++ x)) sub' false ((p ++ (s ++ x)).length + 1) st' [] := by
      cases k' with
      | zero => exact ⟨_, rfl⟩
      | succ k' => exact ⟨_, rfl⟩
    obtain ⟨l1, st1', m, _, _, _, a3, a4, _, _, a7, a8⟩ := em_choice hx g M D none sub' (fun f hf => by cases hf) (fun f hf => by cases hf) (fun f hf => by cases hf) (s.length + 1) ((p ++ (s ++ x)).length + 1) (by simp only [List.length_append]; omega) st [] st1 d hp h hb hD st' hr []
    have h124 : opAt ere (p ++ (s ++ x)) st1'.pos 124 = false := by rw [a7.1, app_op, ext_op_lt hx _ _ _ hlt (by decide)]; exact a3
    rw [h124] at a8
    simp only [Bool.false_eq_true, if_false, List.nil_append, List.map_nil] at a8
    refine ⟨st1', ?_, a7⟩
    rw [hs', a8, nturn_choose, a4, List.nil_append]
  | succ k ih =>
    intro k' D hk st st1 d h hp hlt hb hD st' hr
    rw [regM] at h
    obtain ⟨sub', hs', hsim⟩ : ∃ sub', regM ere (p ++ (s ++ x)) k' st' = choiceM ere (p ++ (s ++ x)) sub' false ((p ++ (s ++ x)).length + 1) st' [] ∧ SubSim p.length g M s D (some (regM ere s k)) sub' := by
      cases k' with
      | zero =>
        refine ⟨_, rfl, fun f _ hD1 => ?_⟩
        omega
      | succ k' =>
        refine ⟨_, rfl, fun f hf hD1 => ⟨_, rfl, ?_⟩⟩
        injection hf with hf
        subst hf
        exact ih k' (D - 1) (by omega)
    obtain ⟨l1, st1', m, _, _, _, a3, a4, _, _, a7, a8⟩ := em_choice hx g M D (some (regM ere s k)) sub' hsim (fun f hf => by injection hf with hf; subst hf; exact reg_mv ere s k) (fun f hf => by injection hf with hf; subst hf; exact reg_takes ere s k) (s.length + 1) ((p ++ (s ++ x)).length + 1) (by simp only [List.length_append]; omega) st [] st1 d hp h hb hD st' hr []
    have h124 : opAt ere (p ++ (s ++ x)) st1'.pos 124 = false := by rw [a7.1, app_op, ext_op_lt hx _ _ _ hlt (by decide)]; exact a3
    rw [h124] at a8
    simp only [Bool.false_eq_true, if_false, List.nil_append, List.map_nil] at a8
    refine ⟨st1', ?_, a7⟩
    rw [hs', a8, nturn_choose, a4, List.nil_append]
end
end Go.Proofs.YtacpoandhocmhaaGreatDoor
namespace Go.Proofs.YtacpoandhocmhaaGreatDoor

def sgn (ere : Bool) (c : UInt8) : List UInt8 := if ere then [c] else [92, c]
theorem sgn_len (ere : Bool) (c : UInt8) : (sgn ere c).length = opLen ere := by cases ere <;> rfl
theorem sgn_op (ere : Bool) (c : UInt8) (t : List UInt8) : opAt ere (sgn ere c ++ t) 0 c.toNat = true := by
  cases ere <;> simp [sgn, opAt, chAt, esAt, byt]
theorem sgn_stop (ere : Bool) (c : UInt8) (hc : c = 41 ∨ c = 124) (t : List UInt8) : Stop ere (sgn ere c ++ t) := by
  rcases hc with rfl | rfl
  · exact .inr ⟨41, .inl rfl, sgn_op ere 41 t⟩
  · exact .inr ⟨124, .inr rfl, sgn_op ere 124 t⟩
/-- A whole regex, as it is read. -/
theorem whole_in {ere : Bool} {s : List UInt8} {st : ReSt} {d : Nd} (h : parseM ere s = .ok (st, d)) :
    s.length ≤ 250 ∧ choiceM ere s (some (regM ere s 11)) false (s.length + 1) reZero [] = .ok (st, d) ∧ opAt ere s st.pos 41 = false := by
  have hl : s.length ≤ 250 := by
    unfold parseM at h
    split at h
    · cases h
    · omega
  rw [parse_shut _ _ hl] at h
  cases hc : choiceM ere s (some (regM ere s 11)) false (s.length + 1) reZero [] with
  | error e => rw [hc] at h; cases h
  | ok q =>
    obtain ⟨st2, d2⟩ := q
    rw [hc] at h
    unfold shutR at h
    simp only at h
    cases h41 : opAt ere s st2.pos 41 with
    | true => rw [h41] at h; cases h
    | false =>
      rw [h41] at h
      injection h with h
      injection h with h1 h2
      subst h1 h2
      exact ⟨hl, rfl, h41⟩
theorem reg_subs (ere : Bool) (s : List UInt8) (k : Nat) : SubMv s (some (regM ere s k)) ∧ SubOk (some (regM ere s k)) :=
  ⟨fun f hf => by injection hf with hf; subst hf; exact reg_mv ere s k, fun f hf => by injection hf with hf; subst hf; exact reg_takes ere s k⟩
theorem reg_sim {ere : Bool} {p s x : List UInt8} (hx : Stop ere x) (g : Nat) (M : List (Nat × Nat)) (k k' D : Nat) (h : D ≤ k' + 1 ∨ k ≤ k') : SubSim p.length g M s D (some (regM ere s k)) (some (regM ere (p ++ (s ++ x)) k')) := by
  intro f hf hD
  injection hf with hf
  subst hf
  exact ⟨_, rfl, em_reg hx g M k k' (D - 1) (by omega)⟩
theorem branch_done (ere : Bool) (s : List UInt8) (sub : Option (ReSt → ReRes (ReSt × Nd))) (begin n : Nat) (st : ReSt) (parts : List Nd) (front : Bool) (h : s.length ≤ st.pos) :
    branchM ere s sub false begin (n + 1) st parts front = .ok (st, njoin parts) := by
  rw [branchM, decide_eq_true h]
  rfl
theorem rep_end (ere : Bool) (s : List UInt8) (k : Nat) (h : s.length ≤ k) : repAt ere s k = .none := by
  unfold repAt
  rw [ch_end _ _ _ h, op_end _ _ _ _ h, op_end _ _ _ _ h, op_end _ _ _ _ h]
  rfl
/-- A regex in a group. -/
theorem parse_group {ere : Bool} {s : List UInt8} {st : ReSt} {d : Nd} (h : parseM ere s = .ok (st, d)) (hb : nbacks d = false) (hD : ndeep d < 12) (hl : s.length + 4 ≤ 250) :
    ∃ st2, parseM ere (sgn ere 40 ++ (s ++ sgn ere 41)) = .ok (st2, .group 1 (nturn 1 d)) ∧ st2.marks.length = st.marks.length := by
  obtain ⟨_, hc, h41⟩ := whole_in h
  have hx : Stop ere (sgn ere 41) := by have := sgn_stop ere 41 (.inl rfl) []; rwa [List.append_nil] at this
  have hop : opLen ere ≤ 2 := by cases ere <;> decide
  have hL : (sgn ere 40 ++ (s ++ sgn ere 41)).length = opLen ere + (s.length + opLen ere) := by rw [List.length_append, List.length_append, sgn_len, sgn_len]
  have hr0 : Rel (sgn ere 40).length 1 [] reZero ⟨opLen ere, 1, [], []⟩ := ⟨by rw [sgn_len]; rfl, rfl, rfl⟩
  obtain ⟨l1, st1', m, _, a1, a2, a3, a4, _, _, a7, a8⟩ := em_choice hx 1 [] 11 (some (regM ere s 11)) (some (regM ere (sgn ere 40 ++ (s ++ sgn ere 41)) 10)) (reg_sim hx 1 [] 11 10 11 (.inl (by omega))) (reg_subs ere s 11).1 (reg_subs ere s 11).2
    (s.length + 1) ((sgn ere 40 ++ (s ++ sgn ere 41)).length + 1) (by rw [hL]; omega) reZero [] st d (Nat.zero_le _) hc hb (by omega) ⟨opLen ere, 1, [], []⟩ hr0 []
  have hpos : st.pos = s.length := by
    rcases a2 with a2 | a2
    · omega
    · rw [h41] at a2; cases a2
  have hp1 : st1'.pos = opLen ere + s.length := by rw [a7.1, sgn_len, hpos]
  have e41 : opAt ere (sgn ere 40 ++ (s ++ sgn ere 41)) st1'.pos 41 = true := by
    rw [a7.1, hpos, app_op]
    have := app_op ere s (sgn ere 41) 0 41
    rw [Nat.add_zero] at this
    rw [this]
    have h2 := sgn_op ere 41 []
    rw [List.append_nil] at h2
    exact h2
  have e124 : opAt ere (sgn ere 40 ++ (s ++ sgn ere 41)) st1'.pos 124 = false := op_other e41 (by decide)
  rw [e124] at a8
  simp only [Bool.false_eq_true, if_false, List.nil_append, List.map_nil] at a8
  rw [nturn_choose, show nchoose l1 = d from a4.symm] at a8
  have e40 : opAt ere (sgn ere 40 ++ (s ++ sgn ere 41)) 0 40 = true := sgn_op ere 40 _
  generalize hS : sgn ere 40 ++ (s ++ sgn ere 41) = S at *
  have hgr : atomM ere S (some (regM ere S 11)) reZero = .ok ({ st1' with pos := st1'.pos + opLen ere, closed := st1'.closed ++ [(0 : Int) + 1] }, .group 1 (nturn 1 d)) := by
    unfold atomM
    rw [show reZero.pos = 0 from rfl, e40, if_pos rfl]
    unfold grpM
    simp only
    rw [show ({ pos := reZero.pos + opLen ere, opened := reZero.opened + 1, closed := reZero.closed, marks := reZero.marks } : ReSt) = ⟨opLen ere, 1, [], []⟩ by simp [reZero]]
    rw [regM, a8]
    simp only
    rw [if_pos e41]
    rfl
  generalize hst2 : ({ st1' with pos := st1'.pos + opLen ere, closed := st1'.closed ++ [(0 : Int) + 1] } : ReSt) = st2 at hgr
  have hp2 : S.length ≤ st2.pos := by rw [← hst2, hL]; show _ ≤ st1'.pos + opLen ere; omega
  have hm2 : st2.marks = st1'.marks := by rw [← hst2]
  have hbr : branchM ere S (some (regM ere S 11)) false 0 (S.length + 1) reZero [] true = .ok (st2, njoin [.group 1 (nturn 1 d)]) := by
    obtain ⟨k, hk⟩ : ∃ k, S.length = k + 1 := ⟨S.length - 1, by rw [hL]; have := op_pos ere; omega⟩
    rw [branchM, show reZero.pos = 0 from rfl, decide_eq_false (show ¬ S.length ≤ 0 by omega), op_other e40 (show 40 ≠ 124 by decide), op_other e40 (show 40 ≠ 41 by decide), op_ch e40 (show 40 ≠ 94 by decide) (by decide), op_ch e40 (show 40 ≠ 36 by decide) (by decide), op_other e40 (show 40 ≠ 123 by decide), op_other e40 (show 40 ≠ 43 by decide), op_other e40 (show 40 ≠ 63 by decide), op_ch e40 (show 40 ≠ 42 by decide) (by decide)]
    simp only [Bool.false_or, Bool.false_and, Bool.and_false, Bool.false_eq_true, if_false]
    rw [hgr]
    simp only
    rw [hk, repM, rep_end ere S _ hp2]
    simp only
    rw [branch_done ere S _ _ _ _ _ _ hp2]
    rfl
  refine ⟨st2, ?_, ?_⟩
  · rw [parse_shut _ _ (by rw [hL]; omega), choiceM, show reZero.pos = 0 from rfl, hbr]
    simp only
    rw [op_end _ _ _ _ hp2]
    simp only [Bool.false_eq_true, if_false]
    unfold shutR
    simp only
    rw [op_end _ _ _ _ hp2]
    rfl
  · rw [hm2, a7.2.2, List.nil_append, List.length_map]
/-- Two regexes with a bar between. -/
theorem parse_bar {ere : Bool} {s t : List UInt8} {st st2 : ReSt} {d d2 : Nd} (h : parseM ere s = .ok (st, d)) (k : parseM ere t = .ok (st2, d2)) (hb : nbacks d = false) (kb : nbacks d2 = false) (hl : s.length + t.length + 2 ≤ 250) :
    ∃ st3, parseM ere (s ++ (sgn ere 124 ++ t)) = .ok (st3, nchoose [d, nturn (ngroups d : Int) d2]) ∧ st3.marks = st.marks ++ (if ere then [] else [(s.length, 124)]) ++ st2.marks.map (fun m => (s.length + opLen ere + m.1, m.2)) := by
  obtain ⟨_, hc, h41⟩ := whole_in h
  obtain ⟨_, kc, k41⟩ := whole_in k
  have hop : opLen ere ≤ 2 := by cases ere <;> decide
  have hx : Stop ere (sgn ere 124 ++ t) := sgn_stop ere 124 (.inr rfl) t
  have hL : (s ++ (sgn ere 124 ++ t)).length = s.length + (opLen ere + t.length) := by rw [List.length_append, List.length_append, sgn_len]
  obtain ⟨l1, st1', m, hm, a1, a2, a3, a4, a5, a6, a7, a8⟩ := em_choice (p := []) hx 0 [] (ndeep d) (some (regM ere s 11)) (some (regM ere ([] ++ (s ++ (sgn ere 124 ++ t))) 11)) (reg_sim hx 0 [] 11 11 (ndeep d) (.inr (Nat.le_refl _))) (reg_subs ere s 11).1 (reg_subs ere s 11).2
    (s.length + 1) (([] ++ (s ++ (sgn ere 124 ++ t)) : List UInt8).length + 1) (by rw [List.nil_append, hL]; omega) reZero [] st d (Nat.zero_le _) hc hb (Nat.le_refl _) reZero ⟨rfl, rfl, rfl⟩ []
  rw [List.nil_append] at hm a8
  have hpos : st.pos = s.length := by
    rcases a2 with a2 | a2
    · omega
    · rw [h41] at a2; cases a2
  have hp1 : st1'.pos = s.length := by rw [a7.1, hpos]; simp
  have e124 : opAt ere (s ++ (sgn ere 124 ++ t)) st1'.pos 124 = true := by
    rw [hp1]
    have := app_op ere s (sgn ere 124 ++ t) 0 124
    rw [Nat.add_zero] at this
    rw [this]
    exact sgn_op ere 124 t
  rw [e124] at a8
  simp only [List.nil_append, List.map_nil, if_true] at a8
  have hz : l1.map (nturn ((0 : Nat) : Int)) = l1 := by rw [← nturns_map]; exact nturns_zero l1
  rw [hz] at a8
  have ho : st.opened = ngroups d := by
    have ht := choice_takes ere s (some (regM ere s 11)) (reg_subs ere s 11).2 false _ _ _ _ _ reZero (show TakesL [] reZero reZero from rfl) rfl hc
    have hn := (nright_count d _ _ _ ht).1
    have h0 : ((reZero.opened : Nat) : Int) = 0 := rfl
    rw [h0] at hn
    simp only at hn
    omega
  have hmk : st1'.marks = st.marks := by
    rw [a7.2.2, List.nil_append]
    simp
  generalize hst3 : ((if ere then st1' else st1'.mark 124).to (st1'.pos + opLen ere) : ReSt) = st3 at a8
  have hr3 : Rel (s ++ sgn ere 124).length (ngroups d) (st.marks ++ (if ere then [] else [(s.length, 124)])) reZero st3 := by
    rw [← hst3]
    refine ⟨?_, ?_, ?_⟩
    · show st1'.pos + opLen ere = _
      rw [List.length_append, sgn_len, hp1]
      rfl
    · have : st1'.opened = 0 + st.opened := a7.2.1
      cases ere with
      | true => show st1'.opened = _; rw [this, ho, Nat.zero_add]; rfl
      | false => show st1'.opened = _; rw [this, ho, Nat.zero_add]; rfl
    · cases ere with
      | true => show st1'.marks = _; rw [hmk]; simp [reZero]
      | false => show st1'.marks ++ [(st1'.pos, 124)] = _; rw [hmk, hp1]; simp [reZero]
  obtain ⟨l2, st4', m2, _, b1, b2, b3, b4, b5, b6, b7, b8⟩ := em_choice (p := s ++ sgn ere 124) (x := []) (.inl rfl) (ngroups d) (st.marks ++ (if ere then [] else [(s.length, 124)])) (ndeep d2) (some (regM ere t 11)) (some (regM ere ((s ++ sgn ere 124) ++ (t ++ [])) 11)) (reg_sim (.inl rfl) (ngroups d) _ 11 11 (ndeep d2) (.inr (Nat.le_refl _))) (reg_subs ere t 11).1 (reg_subs ere t 11).2
    (t.length + 1) m (by rw [hL] at hm; have := op_pos ere; omega) reZero [] st2 d2 (Nat.zero_le _) kc kb (Nat.le_refl _) st3 hr3 l1
  have hS : (s ++ sgn ere 124) ++ (t ++ []) = s ++ (sgn ere 124 ++ t) := by rw [List.append_nil, List.append_assoc]
  rw [hS] at b8
  have kpos : st2.pos = t.length := by
    rcases b2 with b2 | b2
    · omega
    · rw [k41] at b2; cases b2
  have hp4 : (s ++ (sgn ere 124 ++ t)).length ≤ st4'.pos := by rw [b7.1, kpos, hL, List.length_append, sgn_len]; omega
  rw [op_end _ _ _ _ hp4] at b8
  simp only [Bool.false_eq_true, if_false, List.nil_append, List.map_nil, List.append_nil] at b8
  have hnc : nchoose (l1 ++ l2.map (nturn (ngroups d : Int))) = nchoose [d, nturn (ngroups d : Int) d2] := by
    have c1 : ∀ l : List Nd, l ≠ [] → l.all inAlt = true → cpart (nchoose l) = l := by
      intro l hne hal
      have hf := cflat_all l hal
      unfold nchoose
      rw [hf]
      rcases l with _ | ⟨y, _ | ⟨z, zs⟩⟩
      · exact (hne rfl).elim
      · simp only
        have : cflat [y] = [y] := hf
        simpa [cflat] using this
      · rfl
    have q1 : cpart d = l1 := by rw [show d = nchoose l1 from a4]; exact c1 l1 a5 a6
    have q2 : cpart d2 = l2 := by rw [show d2 = nchoose l2 from b4]; exact c1 l2 b5 b6
    have hal2 : (l2.map (nturn (ngroups d : Int))).all inAlt = true := by
      rw [List.all_map]
      rw [List.all_eq_true] at b6 ⊢
      intro y hy
      have := b6 y hy
      cases y <;> first | rfl | exact this
    unfold nchoose
    rw [cflat_two, nturn_cpart, q1, q2, cflat_all _ (by rw [List.all_append, a6, hal2]; rfl)]
  rw [hnc] at b8
  refine ⟨st4', ?_, ?_⟩
  · rw [parse_shut _ _ (by rw [hL]; omega), a8, b8]
    unfold shutR
    simp only
    rw [op_end _ _ _ _ hp4]
    rfl
  · rw [b7.2.2, List.length_append, sgn_len]
end Go.Proofs.YtacpoandhocmhaaGreatDoor
namespace Go.Proofs.YtacpoandhocmhaaGreatDoor

theorem repM_err (ere : Bool) (s : List UInt8) : ∀ (n : Nat) (st : ReSt) (d : Nd) (q : Nat × Nat), st.pos ≤ s.length → s.length < n + st.pos → repM ere s n st d = .error q → q.1 ≠ 0 := by
  intro n
  induction n with
  | zero => intro st d q h1 h2; omega
  | succ n ih =>
    intro st d q h1 h2 h
    rw [repM] at h
    cases hr : repAt ere s st.pos with
    | none => rw [hr] at h; cases h
    | bad => rw [hr] at h; injection h with h; subst h; simp
    | some mn mx c j =>
      rw [hr] at h
      obtain ⟨m1, m2⟩ := rep_mv _ _ _ _ _ _ _ hr
      exact ih ((if c = 0 then st else st.mark c).to j) _ q m2 (by show _ < n + j; omega) h
def SubErr (s : List UInt8) (sub : Option (ReSt → ReRes (ReSt × Nd))) : Prop := ∀ f, sub = some f → ∀ st q, st.pos ≤ s.length → f st = .error q → q.1 ≠ 0
theorem escM_err (ere : Bool) (st : ReSt) (c : Nat) (q : Nat × Nat) (h : escM ere st c = .error q) : q.1 ≠ 0 := by
  unfold escM at h
  split at h
  · split at h
    · cases h
    · injection h with h; subst h; simp
  · split at h
    · injection h with h; subst h; simp
    · cases h
theorem atom_err (ere : Bool) (s : List UInt8) (sub : Option (ReSt → ReRes (ReSt × Nd))) (hs : SubErr s sub) (st : ReSt) (q : Nat × Nat) (h : atomM ere s sub st = .error q) : q.1 ≠ 0 := by
  unfold atomM at h
  split at h
  · rename_i h40
    unfold grpM at h
    split at h
    · injection h with h; subst h; simp
    · rename_i f
      split at h
      · rename_i e he
        injection h with h
        subst h
        exact hs f rfl _ _ (op_len h40) he
      · split at h
        · cases h
        · injection h with h; subst h; simp
  · split at h
    · injection h with h; subst h; simp
    · split at h
      · split at h
        · cases h
        · rename_i hz
          injection h with h
          subst h
          exact hz
      · split at h
        · cases h
        · split at h
          · split at h
            · exact escM_err _ _ _ _ h
            · injection h with h; subst h; simp
          · cases h
theorem branch_err (ere : Bool) (s : List UInt8) (sub : Option (ReSt → ReRes (ReSt × Nd))) (hs : SubErr s sub) (hmv : SubMv s sub) (top : Bool) (begin : Nat) : ∀ (n : Nat) (st : ReSt) (parts : List Nd) (front : Bool) (q : Nat × Nat), st.pos ≤ s.length → s.length < n + st.pos →
    branchM ere s sub top begin n st parts front = .error q → q.1 ≠ 0 := by
  intro n
  induction n with
  | zero => intro st parts front q h1 h2; omega
  | succ n ih =>
    intro st parts front q h1 h2 h
    rw [branchM] at h
    split at h
    · cases h
    · rename_i he
      have hlt : st.pos < s.length := by
        simp only [Bool.or_eq_true, decide_eq_true_eq, not_or] at he
        omega
      split at h
      · exact ih (st.to (st.pos + 1)) _ _ q (show st.pos + 1 ≤ _ by omega) (show _ < n + (st.pos + 1) by omega) h
      · split at h
        · exact ih (st.to (st.pos + 1)) _ _ q (show st.pos + 1 ≤ _ by omega) (show _ < n + (st.pos + 1) by omega) h
        · split at h
          · injection h with h; subst h; simp
          · split at h
            · rename_i e ha
              injection h with h
              subst h
              exact atom_err ere s sub hs st _ ha
            · rename_i st1 d1 ha
              have m1 := atom_mv ere s sub hmv st st1 d1 hlt ha
              split at h
              · rename_i e hr
                injection h with h
                subst h
                exact repM_err ere s _ _ _ _ m1.2 (by omega) hr
              · rename_i st2 d2 hr
                have m2 := repM_mv ere s _ _ _ _ _ m1.2 hr
                exact ih st2 _ _ q m2.2 (by omega) h
theorem choice_err (ere : Bool) (s : List UInt8) (sub : Option (ReSt → ReRes (ReSt × Nd))) (hs : SubErr s sub) (hmv : SubMv s sub) (top : Bool) : ∀ (n : Nat) (st : ReSt) (l : List Nd) (q : Nat × Nat), st.pos ≤ s.length → s.length < n + st.pos →
    choiceM ere s sub top n st l = .error q → q.1 ≠ 0 := by
  intro n
  induction n with
  | zero => intro st l q h1 h2; omega
  | succ n ih =>
    intro st l q h1 h2 h
    rw [choiceM] at h
    split at h
    · rename_i e hb
      injection h with h
      subst h
      exact branch_err ere s sub hs hmv top _ _ _ _ _ _ h1 (by omega) hb
    · rename_i st1 d1 hb
      have m1 := branch_mv ere s sub hmv top _ _ _ _ _ _ _ h1 hb
      split at h
      · rename_i h124
        have hp := op_pos ere
        exact ih ((if ere then st1 else st1.mark 124).to (st1.pos + opLen ere)) _ q (op_len h124) (by show _ < n + (st1.pos + opLen ere); omega) h
      · cases h
theorem reg_err (ere : Bool) (s : List UInt8) : ∀ (k : Nat) (st : ReSt) (q : Nat × Nat), st.pos ≤ s.length → regM ere s k st = .error q → q.1 ≠ 0 := by
  intro k
  induction k with
  | zero => intro st q hp h; exact choice_err ere s none (fun f hf => by cases hf) (fun f hf => by cases hf) false _ _ _ _ hp (by omega) h
  | succ k ih => intro st q hp h; exact choice_err ere s (some (regM ere s k)) (fun f hf => by injection hf with hf; subst hf; exact ih) (reg_subs ere s k).1 false _ _ _ _ hp (by omega) h
theorem whole_err {ere : Bool} {s : List UInt8} {q : Nat × Nat} (h : parseM ere s = .error q) : q.1 ≠ 0 := by
  unfold parseM at h
  split at h
  · injection h with h; subst h; simp
  · exact choice_err ere s (some (regM ere s 11)) (fun f hf => by injection hf with hf; subst hf; exact reg_err ere s 11) (reg_subs ere s 11).1 true _ _ _ _ (Nat.zero_le _) (by omega) h
/-- How many groups a regex opens is how many it has. -/
theorem whole_opened {ere : Bool} {s : List UInt8} {st : ReSt} {d : Nd} (h : parseM ere s = .ok (st, d)) : nright d 0 [] = some ((st.opened : Int), st.closed) ∧ st.opened = ngroups d := by
  obtain ⟨_, hc, _⟩ := whole_in h
  have ht := choice_takes ere s (some (regM ere s 11)) (reg_subs ere s 11).2 false _ _ _ _ _ reZero (show TakesL [] reZero reZero from rfl) rfl hc
  have hn := (nright_count d _ _ _ ht).1
  have h0 : ((reZero.opened : Nat) : Int) = 0 := rfl
  rw [h0] at hn
  simp only at hn
  exact ⟨ht, by omega⟩
/-- How great a tree is that is read. -/
theorem flat_sizes (f : Nd → List Nd) (hf : ∀ d, nsizes (f d) ≤ nsize d) (l : List Nd) : nsizes (l.flatMap f) ≤ nsizes l := by
  induction l with
  | nil => exact Nat.le_refl _
  | cons d ds ih => rw [List.flatMap_cons, nsizes_append, nsizes]; have := hf d; omega
theorem joined_size (l : List Nd) : nsize (njoin l) ≤ 1 + nsizes l := by
  have h := flat_sizes jpart nsizes_jpart l
  unfold njoin
  unfold jflat
  cases hl : l.flatMap jpart with
  | nil => simp [nsize]
  | cons d ds =>
    rw [hl] at h
    cases ds with
    | nil => simp only [nsizes] at h; simp only; omega
    | cons e es => simp only [nsize]; omega
theorem chosen_size (l : List Nd) : nsize (nchoose l) ≤ 1 + nsizes l := by
  have h := flat_sizes cpart nsizes_cpart l
  unfold nchoose
  unfold cflat
  cases hl : l.flatMap cpart with
  | nil => simp [nsize]
  | cons d ds =>
    rw [hl] at h
    cases ds with
    | nil => simp only [nsizes] at h; simp only; omega
    | cons e es => simp only [nsize]; omega
theorem repM_size (ere : Bool) (s : List UInt8) : ∀ (n : Nat) (st : ReSt) (d : Nd) (st' : ReSt) (d' : Nd), repM ere s n st d = .ok (st', d') → nsize d' + 3 * st.pos ≤ nsize d + 3 * st'.pos := by
  intro n
  induction n with
  | zero => intro st d st' d' h; cases h
  | succ n ih =>
    intro st d st' d' h
    rw [repM] at h
    cases hr : repAt ere s st.pos with
    | none => rw [hr] at h; injection h with h; injection h with h1 h2; subst h1 h2; exact Nat.le_refl _
    | bad => rw [hr] at h; cases h
    | some mn mx c j =>
      rw [hr] at h
      have m := (rep_mv _ _ _ _ _ _ _ hr).1
      have := ih _ _ _ _ h
      rw [show ((if c = 0 then st else st.mark c).to j).pos = j from rfl, nsize] at this
      omega
def SubSize (s : List UInt8) (sub : Option (ReSt → ReRes (ReSt × Nd))) : Prop := ∀ f, sub = some f → ∀ st st' d, st.pos ≤ s.length → f st = .ok (st', d) → nsize d + 3 * st.pos ≤ 2 + 3 * st'.pos
theorem atom_size (ere : Bool) (s : List UInt8) (sub : Option (ReSt → ReRes (ReSt × Nd))) (hs : SubSize s sub) (hmv : SubMv s sub) (st st' : ReSt) (d : Nd) (hl : st.pos < s.length) (h : atomM ere s sub st = .ok (st', d)) : nsize d + 3 * st.pos ≤ 3 * st'.pos := by
  have hp := op_pos ere
  have hm := (atom_mv ere s sub hmv st st' d hl h).1
  unfold atomM at h
  split at h
  · rename_i h40
    unfold grpM at h
    split at h
    · cases h
    · rename_i f
      split at h
      · cases h
      · rename_i st1 d1 he
        split at h
        · injection h with h
          injection h with h1 h2
          subst h1 h2
          have := hs f rfl _ _ _ (op_len h40) he
          simp only at this
          simp only [nsize]
          omega
        · cases h
  · split at h
    · cases h
    · split at h
      · split at h
        · injection h with h; injection h with h1 h2; subst h2; simp only [nsize]; omega
        · cases h
      · split at h
        · injection h with h; injection h with h1 h2; subst h2; simp only [nsize]; omega
        · split at h
          · split at h
            · unfold escM at h
              split at h
              · split at h
                · injection h with h; injection h with h1 h2; subst h2; simp only [nsize]; omega
                · cases h
              · split at h
                · cases h
                · injection h with h; injection h with h1 h2; subst h2; simp only [nsize]; omega
            · cases h
          · injection h with h; injection h with h1 h2; subst h2; simp only [nsize]; omega
theorem branch_size (ere : Bool) (s : List UInt8) (sub : Option (ReSt → ReRes (ReSt × Nd))) (hs : SubSize s sub) (hmv : SubMv s sub) (top : Bool) (begin : Nat) : ∀ (n : Nat) (st : ReSt) (parts : List Nd) (front : Bool) (st' : ReSt) (d : Nd), st.pos ≤ s.length →
    branchM ere s sub top begin n st parts front = .ok (st', d) → nsize d + 3 * st.pos ≤ 1 + nsizes parts + 3 * st'.pos := by
  intro n
  induction n with
  | zero => intro st parts front st' d _ h; cases h
  | succ n ih =>
    intro st parts front st' d h1 h
    have hsn : ∀ x, nsizes (parts ++ [x]) = nsizes parts + nsize x := fun x => by rw [nsizes_append]; simp [nsizes]
    rw [branchM] at h
    split at h
    · injection h with h; injection h with h2 h3; subst h2 h3
      have := joined_size parts
      omega
    · rename_i he
      have hlt : st.pos < s.length := by
        simp only [Bool.or_eq_true, decide_eq_true_eq, not_or] at he
        omega
      split at h
      · have := ih (st.to (st.pos + 1)) _ _ _ _ (show st.pos + 1 ≤ _ by omega) h
        rw [hsn, show (st.to (st.pos + 1)).pos = st.pos + 1 from rfl] at this
        simp only [nsize] at this
        omega
      · split at h
        · have := ih (st.to (st.pos + 1)) _ _ _ _ (show st.pos + 1 ≤ _ by omega) h
          rw [hsn, show (st.to (st.pos + 1)).pos = st.pos + 1 from rfl] at this
          simp only [nsize] at this
          omega
        · split at h
          · cases h
          · split at h
            · cases h
            · rename_i st1 d1 ha
              have m1 := atom_mv ere s sub hmv st st1 d1 hlt ha
              have z1 := atom_size ere s sub hs hmv st st1 d1 hlt ha
              split at h
              · cases h
              · rename_i st2 d2 hr
                have m2 := repM_mv ere s _ _ _ _ _ m1.2 hr
                have z2 := repM_size ere s _ _ _ _ _ hr
                have := ih st2 _ _ _ _ m2.2 h
                rw [hsn] at this
                omega
theorem choice_size (ere : Bool) (s : List UInt8) (sub : Option (ReSt → ReRes (ReSt × Nd))) (hs : SubSize s sub) (hmv : SubMv s sub) (top : Bool) : ∀ (n : Nat) (st : ReSt) (l : List Nd) (st' : ReSt) (d : Nd), st.pos ≤ s.length →
    choiceM ere s sub top n st l = .ok (st', d) → nsize d + 3 * st.pos ≤ 2 + nsizes l + 3 * st'.pos := by
  intro n
  induction n with
  | zero => intro st l st' d _ h; cases h
  | succ n ih =>
    intro st l st' d h1 h
    have hsn : ∀ x, nsizes (l ++ [x]) = nsizes l + nsize x := fun x => by rw [nsizes_append]; simp [nsizes]
    rw [choiceM] at h
    split at h
    · cases h
    · rename_i st1 d1 hb
      have z1 := branch_size ere s sub hs hmv top _ _ _ _ _ _ _ h1 hb
      simp only [nsizes] at z1
      split at h
      · rename_i h124
        have hp := op_pos ere
        have := ih ((if ere then st1 else st1.mark 124).to (st1.pos + opLen ere)) _ _ _ (op_len h124) h
        rw [hsn, show ((if ere then st1 else st1.mark 124).to (st1.pos + opLen ere)).pos = st1.pos + opLen ere from rfl] at this
        omega
      · injection h with h; injection h with h2 h3; subst h2 h3
        have := chosen_size (l ++ [d1])
        rw [hsn] at this
        omega
theorem reg_size (ere : Bool) (s : List UInt8) : ∀ (k : Nat) (st st' : ReSt) (d : Nd), st.pos ≤ s.length → regM ere s k st = .ok (st', d) → nsize d + 3 * st.pos ≤ 2 + 3 * st'.pos := by
  intro k
  induction k with
  | zero => intro st st' d hp h; have := choice_size ere s none (fun f hf => by cases hf) (fun f hf => by cases hf) false _ _ _ _ _ hp h; simp only [nsizes] at this; omega
  | succ k ih => intro st st' d hp h; have := choice_size ere s (some (regM ere s k)) (fun f hf => by injection hf with hf; subst hf; exact ih) (reg_subs ere s k).1 false _ _ _ _ _ hp h; simp only [nsizes] at this; omega
theorem whole_size {ere : Bool} {s : List UInt8} {st : ReSt} {d : Nd} (h : parseM ere s = .ok (st, d)) : nsize d ≤ 752 := by
  obtain ⟨hl, hc, _⟩ := whole_in h
  have h1 := choice_size ere s (some (regM ere s 11)) (fun f hf => by injection hf with hf; subst hf; exact reg_size ere s 11) (reg_subs ere s 11).1 false _ _ _ _ _ (Nat.zero_le _) hc
  have h2 := (choice_mv ere s (some (regM ere s 11)) (reg_subs ere s 11).1 false _ _ _ _ _ (Nat.zero_le _) hc).2
  simp only [nsizes] at h1
  omega
/-- No more marks than signs. -/
def Mks (st st' : ReSt) : Prop := st'.marks.length + st.pos ≤ st.marks.length + st'.pos
theorem mark_len (st : ReSt) (c : Nat) : (st.mark c).marks.length = st.marks.length + 1 := by unfold ReSt.mark; simp
theorem repM_mks (ere : Bool) (s : List UInt8) : ∀ (n : Nat) (st : ReSt) (d : Nd) (st' : ReSt) (d' : Nd), repM ere s n st d = .ok (st', d') → Mks st st' := by
  intro n
  induction n with
  | zero => intro st d st' d' h; cases h
  | succ n ih =>
    intro st d st' d' h
    rw [repM] at h
    cases hr : repAt ere s st.pos with
    | none => rw [hr] at h; injection h with h; injection h with h1 h2; subst h1 h2; exact Nat.le_refl _
    | bad => rw [hr] at h; cases h
    | some mn mx c j =>
      rw [hr] at h
      have m := (rep_mv _ _ _ _ _ _ _ hr).1
      have := ih _ _ _ _ h
      unfold Mks at this ⊢
      rw [show ((if c = 0 then st else st.mark c).to j).pos = j from rfl, show ((if c = 0 then st else st.mark c).to j).marks = (if c = 0 then st else st.mark c).marks from rfl] at this
      by_cases hc : c = 0
      · rw [if_pos hc] at this; omega
      · rw [if_neg hc, mark_len] at this; omega
def SubMks (s : List UInt8) (sub : Option (ReSt → ReRes (ReSt × Nd))) : Prop := ∀ f, sub = some f → ∀ st st' d, st.pos ≤ s.length → f st = .ok (st', d) → Mks st st'
theorem atom_mks (ere : Bool) (s : List UInt8) (sub : Option (ReSt → ReRes (ReSt × Nd))) (hs : SubMks s sub) (hmv : SubMv s sub) (st st' : ReSt) (d : Nd) (hl : st.pos < s.length) (h : atomM ere s sub st = .ok (st', d)) : Mks st st' := by
  have hp := op_pos ere
  have hm := (atom_mv ere s sub hmv st st' d hl h).1
  unfold Mks
  unfold atomM at h
  split at h
  · rename_i h40
    unfold grpM at h
    split at h
    · cases h
    · rename_i f
      split at h
      · cases h
      · rename_i st1 d1 he
        split at h
        · injection h with h
          injection h with h1 h2
          subst h1 h2
          have := hs f rfl _ _ _ (op_len h40) he
          unfold Mks at this
          simp only at this ⊢
          omega
        · cases h
  · split at h
    · cases h
    · split at h
      · split at h
        · injection h with h; injection h with h1 h2; subst h1; exact Nat.add_le_add_left (Nat.le_of_lt hm) _
        · cases h
      · split at h
        · injection h with h; injection h with h1 h2; subst h1; exact Nat.add_le_add_left (Nat.le_of_lt hm) _
        · split at h
          · split at h
            · have hpos := escM_mv ere st st' _ d h
              unfold escM at h
              split at h
              · split at h
                · injection h with h; injection h with h1 h2; subst h1
                  cases ere with
                  | true => show (st.mark _).marks.length + _ ≤ _; rw [mark_len, hpos]; omega
                  | false => show st.marks.length + _ ≤ _; rw [hpos]; omega
                · cases h
              · split at h
                · cases h
                · rename_i x m _
                  injection h with h; injection h with h1 h2; subst h1
                  cases m with
                  | true => show (st.mark _).marks.length + _ ≤ _; rw [mark_len, hpos]; omega
                  | false => show st.marks.length + _ ≤ _; rw [hpos]; omega
            · cases h
          · injection h with h; injection h with h1 h2; subst h1; exact Nat.add_le_add_left (Nat.le_of_lt hm) _
theorem branch_mks (ere : Bool) (s : List UInt8) (sub : Option (ReSt → ReRes (ReSt × Nd))) (hs : SubMks s sub) (hmv : SubMv s sub) (top : Bool) (begin : Nat) : ∀ (n : Nat) (st : ReSt) (parts : List Nd) (front : Bool) (st' : ReSt) (d : Nd), st.pos ≤ s.length →
    branchM ere s sub top begin n st parts front = .ok (st', d) → Mks st st' := by
  intro n
  induction n with
  | zero => intro st parts front st' d _ h; cases h
  | succ n ih =>
    intro st parts front st' d h1 h
    rw [branchM] at h
    split at h
    · injection h with h; injection h with h2 h3; subst h2 h3
      exact Nat.le_refl _
    · rename_i he
      have hlt : st.pos < s.length := by
        simp only [Bool.or_eq_true, decide_eq_true_eq, not_or] at he
        omega
      have hto : Mks (st.to (st.pos + 1)) st' → Mks st st' := fun h => by
        unfold Mks at h ⊢
        rw [show (st.to (st.pos + 1)).pos = st.pos + 1 from rfl, show (st.to (st.pos + 1)).marks = st.marks from rfl] at h
        omega
      split at h
      · exact hto (ih (st.to (st.pos + 1)) _ _ _ _ (show st.pos + 1 ≤ _ by omega) h)
      · split at h
        · exact hto (ih (st.to (st.pos + 1)) _ _ _ _ (show st.pos + 1 ≤ _ by omega) h)
        · split at h
          · cases h
          · split at h
            · cases h
            · rename_i st1 d1 ha
              have m1 := atom_mv ere s sub hmv st st1 d1 hlt ha
              have z1 := atom_mks ere s sub hs hmv st st1 d1 hlt ha
              split at h
              · cases h
              · rename_i st2 d2 hr
                have m2 := repM_mv ere s _ _ _ _ _ m1.2 hr
                have z2 := repM_mks ere s _ _ _ _ _ hr
                have := ih st2 _ _ _ _ m2.2 h
                unfold Mks at *
                omega
theorem choice_mks (ere : Bool) (s : List UInt8) (sub : Option (ReSt → ReRes (ReSt × Nd))) (hs : SubMks s sub) (hmv : SubMv s sub) (top : Bool) : ∀ (n : Nat) (st : ReSt) (l : List Nd) (st' : ReSt) (d : Nd), st.pos ≤ s.length →
    choiceM ere s sub top n st l = .ok (st', d) → Mks st st' := by
  intro n
  induction n with
  | zero => intro st l st' d _ h; cases h
  | succ n ih =>
    intro st l st' d h1 h
    rw [choiceM] at h
    split at h
    · cases h
    · rename_i st1 d1 hb
      have z1 := branch_mks ere s sub hs hmv top _ _ _ _ _ _ _ h1 hb
      split at h
      · rename_i h124
        have hp := op_pos ere
        have := ih ((if ere then st1 else st1.mark 124).to (st1.pos + opLen ere)) _ _ _ (op_len h124) h
        unfold Mks at *
        rw [show ((if ere then st1 else st1.mark 124).to (st1.pos + opLen ere)).pos = st1.pos + opLen ere from rfl, show ((if ere then st1 else st1.mark 124).to (st1.pos + opLen ere)).marks = (if ere then st1 else st1.mark 124).marks from rfl] at this
        cases ere with
        | true => simp only [if_true] at this; omega
        | false => simp only [Bool.false_eq_true, if_false, mark_len] at this; omega
      · injection h with h; injection h with h2 h3; subst h2 h3
        exact z1
theorem reg_mks (ere : Bool) (s : List UInt8) : ∀ (k : Nat) (st st' : ReSt) (d : Nd), st.pos ≤ s.length → regM ere s k st = .ok (st', d) → Mks st st' := by
  intro k
  induction k with
  | zero => intro st st' d hp h; exact choice_mks ere s none (fun f hf => by cases hf) (fun f hf => by cases hf) false _ _ _ _ _ hp h
  | succ k ih => intro st st' d hp h; exact choice_mks ere s (some (regM ere s k)) (fun f hf => by injection hf with hf; subst hf; exact ih) (reg_subs ere s k).1 false _ _ _ _ _ hp h
theorem whole_mks {ere : Bool} {s : List UInt8} {st : ReSt} {d : Nd} (h : parseM ere s = .ok (st, d)) : st.marks.length ≤ s.length := by
  obtain ⟨hl, hc, _⟩ := whole_in h
  have h1 := choice_mks ere s (some (regM ere s 11)) (fun f hf => by injection hf with hf; subst hf; exact reg_mks ere s 11) (reg_subs ere s 11).1 false _ _ _ _ _ (Nat.zero_le _) hc
  have h2 := (choice_mv ere s (some (regM ere s 11)) (reg_subs ere s 11).1 false _ _ _ _ _ (Nat.zero_le _) hc).2
  unfold Mks at h1
  rw [show reZero.pos = 0 from rfl, show reZero.marks.length = 0 from rfl] at h1
  omega
end Go.Proofs.YtacpoandhocmhaaGreatDoor
