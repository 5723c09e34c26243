/- Plain mathematics of regexes as texts: an error has a number; what a whole regex holds. No program is named here. -/
import Derived.Test.YtbbcjclkklmoaaaDoorGrP
namespace Go.Proofs.YtbbcjclkklmoaaaDoor

theorem repM_err (ere : Bool) (s : List UInt8) : ∀ (n : Nat) (st : ReSt) (d : Nd) (q : Nat × Nat), st.pos ≤ s.length → s.length < n + st.pos → repM ere s n st d = .error q → q.1 ≠ 0 := by
  intro n
  induction n with
  | zero => intro st d q h1 h2; omega
  | succ n ih =>
    intro st d q h1 h2 h
    rw [repM] at h
    cases hr : repAt ere s st.pos with
    | none => rw [hr] at h; cases h
    | bad => rw [hr] at h; injection h with h; subst h; simp
    | some mn mx c j =>
      rw [hr] at h
      obtain ⟨m1, m2⟩ := rep_mv _ _ _ _ _ _ _ hr
      exact ih ((if c = 0 then st else st.mark c).to j) _ q m2 (by show _ < n + j; omega) h
def SubErr (s : List UInt8) (sub : Option (ReSt → ReRes (ReSt × Nd))) : Prop := ∀ f, sub = some f → ∀ st q, st.pos ≤ s.length → f st = .error q → q.1 ≠ 0
theorem escM_err (ere : Bool) (st : ReSt) (c : Nat) (q : Nat × Nat) (h : escM ere st c = .error q) : q.1 ≠ 0 := by
  unfold escM at h
  split at h
  · split at h
    · cases h
    · injection h with h; subst h; simp
  · split at h
    · injection h with h; subst h; simp
    · cases h
theorem atom_err (ere : Bool) (s : List UInt8) (sub : Option (ReSt → ReRes (ReSt × Nd))) (hs : SubErr s sub) (st : ReSt) (q : Nat × Nat) (h : atomM ere s sub st = .error q) : q.1 ≠ 0 := by
  unfold atomM at h
  split at h
  · rename_i h40
    unfold grpM at h
    split at h
    · injection h with h; subst h; simp
    · rename_i f
      split at h
      · rename_i e he
        injection h with h
        subst h
        exact hs f rfl _ _ (op_len h40) he
      · split at h
        · cases h
        · injection h with h; subst h; simp
  · split at h
    · injection h with h; subst h; simp
    · split at h
      · split at h
        · cases h
        · rename_i hz
          injection h with h
          subst h
          exact hz
      · split at h
        · cases h
        · split at h
          · split at h
            · exact escM_err _ _ _ _ h
            · injection h with h; subst h; simp
          · cases h
theorem branch_err (ere : Bool) (s : List UInt8) (sub : Option (ReSt → ReRes (ReSt × Nd))) (hs : SubErr s sub) (hmv : SubMv s sub) (top : Bool) (begin : Nat) : ∀ (n : Nat) (st : ReSt) (parts : List Nd) (front : Bool) (q : Nat × Nat), st.pos ≤ s.length → s.length < n + st.pos →
    branchM ere s sub top begin n st parts front = .error q → q.1 ≠ 0 := by
  intro n
  induction n with
  | zero => intro st parts front q h1 h2; omega
  | succ n ih =>
    intro st parts front q h1 h2 h
    rw [branchM] at h
    split at h
    · cases h
    · rename_i he
      have hlt : st.pos < s.length := by
        simp only [Bool.or_eq_true, decide_eq_true_eq, not_or] at he
        omega
      split at h
      · exact ih (st.to (st.pos + 1)) _ _ q (show st.pos + 1 ≤ _ by omega) (show _ < n + (st.pos + 1) by omega) h
      · split at h
        · exact ih (st.to (st.pos + 1)) _ _ q (show st.pos + 1 ≤ _ by omega) (show _ < n + (st.pos + 1) by omega) h
        · split at h
          · injection h with h; subst h; simp
          · split at h
            · rename_i e ha
              injection h with h
              subst h
              exact atom_err ere s sub hs st _ ha
            · rename_i st1 d1 ha
              have m1 := atom_mv ere s sub hmv st st1 d1 hlt ha
              split at h
              · rename_i e hr
                injection h with h
                subst h
                exact repM_err ere s _ _ _ _ m1.2 (by omega) hr
              · rename_i st2 d2 hr
                have m2 := repM_mv ere s _ _ _ _ _ m1.2 hr
                exact ih st2 _ _ q m2.2 (by omega) h
theorem choice_err (ere : Bool) (s : List UInt8) (sub : Option (ReSt → ReRes (ReSt × Nd))) (hs : SubErr s sub) (hmv : SubMv s sub) (top : Bool) : ∀ (n : Nat) (st : ReSt) (l : List Nd) (q : Nat × Nat), st.pos ≤ s.length → s.length < n + st.pos →
    choiceM ere s sub top n st l = .error q → q.1 ≠ 0 := by
  intro n
  induction n with
  | zero => intro st l q h1 h2; omega
  | succ n ih =>
    intro st l q h1 h2 h
    rw [choiceM] at h
    split at h
    · rename_i e hb
      injection h with h
      subst h
      exact branch_err ere s sub hs hmv top _ _ _ _ _ _ h1 (by omega) hb
    · rename_i st1 d1 hb
      have m1 := branch_mv ere s sub hmv top _ _ _ _ _ _ _ h1 hb
      split at h
      · rename_i h124
        have hp := op_pos ere
        exact ih ((if ere then st1 else st1.mark 124).to (st1.pos + opLen ere)) _ q (op_len h124) (by show _ < n + (st1.pos + opLen ere); omega) h
      · cases h
theorem reg_err (ere : Bool) (s : List UInt8) : ∀ (k : Nat) (st : ReSt) (q : Nat × Nat), st.pos ≤ s.length → regM ere s k st = .error q → q.1 ≠ 0 := by
  intro k
  induction k with
  | zero => intro st q hp h; exact choice_err ere s none (fun f hf => by cases hf) (fun f hf => by cases hf) false _ _ _ _ hp (by omega) h
  | succ k ih => intro st q hp h; exact choice_err ere s (some (regM ere s k)) (fun f hf => by injection hf with hf; subst hf; exact ih) (reg_subs ere s k).1 false _ _ _ _ hp (by omega) h
theorem whole_err {ere : Bool} {s : List UInt8} {q : Nat × Nat} (h : parseM ere s = .error q) : q.1 ≠ 0 := by
  unfold parseM at h
  split at h
  · injection h with h; subst h; simp
  · exact choice_err ere s (some (regM ere s 11)) (fun f hf => by injection hf with hf; subst hf; exact reg_err ere s 11) (reg_subs ere s 11).1 true _ _ _ _ (Nat.zero_le _) (by omega) h
/-- How many groups a regex opens is how many it has. -/
theorem whole_opened {ere : Bool} {s : List UInt8} {st : ReSt} {d : Nd} (h : parseM ere s = .ok (st, d)) : nright d 0 [] = some ((st.opened : Int), st.closed) ∧ st.opened = ngroups d := by
  obtain ⟨_, hc, _⟩ := whole_in h
  have ht := choice_takes ere s (some (regM ere s 11)) (reg_subs ere s 11).2 false _ _ _ _ _ reZero (show TakesL [] reZero reZero from rfl) rfl hc
  have hn := (nright_count d _ _ _ ht).1
  have h0 : ((reZero.opened : Nat) : Int) = 0 := rfl
  rw [h0] at hn
  simp only at hn
  exact ⟨ht, by omega⟩
/-- How great a tree is that is read. -/
theorem flat_sizes (f : Nd → List Nd) (hf : ∀ d, nsizes (f d) ≤ nsize d) (l : List Nd) : nsizes (l.flatMap f) ≤ nsizes l := by
  induction l with
  | nil => exact Nat.le_refl _
  | cons d ds ih => rw [List.flatMap_cons, nsizes_append, nsizes]; have := hf d; omega
theorem joined_size (l : List Nd) : nsize (njoin l) ≤ 1 + nsizes l := by
  have h := flat_sizes jpart nsizes_jpart l
  unfold njoin
  unfold jflat
  cases hl : l.flatMap jpart with
  | nil => simp [nsize]
  | cons d ds =>
    rw [hl] at h
    cases ds with
    | nil => simp only [nsizes] at h; simp only; omega
    | cons e es => simp only [nsize]; omega
theorem chosen_size (l : List Nd) : nsize (nchoose l) ≤ 1 + nsizes l := by
  have h := flat_sizes cpart nsizes_cpart l
  unfold nchoose
  unfold cflat
  cases hl : l.flatMap cpart with
  | nil => simp [nsize]
  | cons d ds =>
    rw [hl] at h
    cases ds with
    | nil => simp only [nsizes] at h; simp only; omega
    | cons e es => simp only [nsize]; omega
theorem repM_size (ere : Bool) (s : List UInt8) : ∀ (n : Nat) (st : ReSt) (d : Nd) (st' : ReSt) (d' : Nd), repM ere s n st d = .ok (st', d') → nsize d' + 3 * st.pos ≤ nsize d + 3 * st'.pos := by
  intro n
  induction n with
  | zero => intro st d st' d' h; cases h
  | succ n ih =>
    intro st d st' d' h
    rw [repM] at h
    cases hr : repAt ere s st.pos with
    | none => rw [hr] at h; injection h with h; injection h with h1 h2; subst h1 h2; exact Nat.le_refl _
    | bad => rw [hr] at h; cases h
    | some mn mx c j =>
      rw [hr] at h
      have m := (rep_mv _ _ _ _ _ _ _ hr).1
      have := ih _ _ _ _ h
      rw [show ((if c = 0 then st else st.mark c).to j).pos = j from rfl, nsize] at this
      omega
def SubSize (s : List UInt8) (sub : Option (ReSt → ReRes (ReSt × Nd))) : Prop := ∀ f, sub = some f → ∀ st st' d, st.pos ≤ s.length → f st = .ok (st', d) → nsize d + 3 * st.pos ≤ 2 + 3 * st'.pos
theorem atom_size (ere : Bool) (s : List UInt8) (sub : Option (ReSt → ReRes (ReSt × Nd))) (hs : SubSize s sub) (hmv : SubMv s sub) (st st' : ReSt) (d : Nd) (hl : st.pos < s.length) (h : atomM ere s sub st = .ok (st', d)) : nsize d + 3 * st.pos ≤ 3 * st'.pos := by
  have hp := op_pos ere
  have hm := (atom_mv ere s sub hmv st st' d hl h).1
  unfold atomM at h
  split at h
  · rename_i h40
    unfold grpM at h
    split at h
    · cases h
    · rename_i f
      split at h
      · cases h
      · rename_i st1 d1 he
        split at h
        · injection h with h
          injection h with h1 h2
          subst h1 h2
          have := hs f rfl _ _ _ (op_len h40) he
          simp only at this
          simp only [nsize]
          omega
        · cases h
  · split at h
    · cases h
    · split at h
      · split at h
        · injection h with h; injection h with h1 h2; subst h2; simp only [nsize]; omega
        · cases h
      · split at h
        · injection h with h; injection h with h1 h2; subst h2; simp only [nsize]; omega
        · split at h
          · split at h
            · unfold escM at h
              split at h
              · split at h
                · injection h with h; injection h with h1 h2; subst h2; simp only [nsize]; omega
                · cases h
              · split at h
                · cases h
                · injection h with h; injection h with h1 h2; subst h2; simp only [nsize]; omega
            · cases h
          · injection h with h; injection h with h1 h2; subst h2; simp only [nsize]; omega
theorem branch_size (ere : Bool) (s : List UInt8) (sub : Option (ReSt → ReRes (ReSt × Nd))) (hs : SubSize s sub) (hmv : SubMv s sub) (top : Bool) (begin : Nat) : ∀ (n : Nat) (st : ReSt) (parts : List Nd) (front : Bool) (st' : ReSt) (d : Nd), st.pos ≤ s.length →
    branchM ere s sub top begin n st parts front = .ok (st', d) → nsize d + 3 * st.pos ≤ 1 + nsizes parts + 3 * st'.pos := by
  intro n
  induction n with
  | zero => intro st parts front st' d _ h; cases h
  | succ n ih =>
    intro st parts front st' d h1 h
    have hsn : ∀ x, nsizes (parts ++ [x]) = nsizes parts + nsize x := fun x => by rw [nsizes_append]; simp [nsizes]
    rw [branchM] at h
    split at h
    · injection h with h; injection h with h2 h3; subst h2 h3
      have := joined_size parts
      omega
    · rename_i he
      have hlt : st.pos < s.length := by
        simp only [Bool.or_eq_true, decide_eq_true_eq, not_or] at he
        omega
      split at h
      · have := ih (st.to (st.pos + 1)) _ _ _ _ (show st.pos + 1 ≤ _ by omega) h
        rw [hsn, show (st.to (st.pos + 1)).pos = st.pos + 1 from rfl] at this
        simp only [nsize] at this
        omega
      · split at h
        · have := ih (st.to (st.pos + 1)) _ _ _ _ (show st.pos + 1 ≤ _ by omega) h
          rw [hsn, show (st.to (st.pos + 1)).pos = st.pos + 1 from rfl] at this
          simp only [nsize] at this
          omega
        · split at h
          · cases h
          · split at h
            · cases h
            · rename_i st1 d1 ha
              have m1 := atom_mv ere s sub hmv st st1 d1 hlt ha
              have z1 := atom_size ere s sub hs hmv st st1 d1 hlt ha
              split at h
              · cases h
              · rename_i st2 d2 hr
                have m2 := repM_mv ere s _ _ _ _ _ m1.2 hr
                have z2 := repM_size ere s _ _ _ _ _ hr
                have := ih st2 _ _ _ _ m2.2 h
                rw [hsn] at this
                omega
theorem choice_size (ere : Bool) (s : List UInt8) (sub : Option (ReSt → ReRes (ReSt × Nd))) (hs : SubSize s sub) (hmv : SubMv s sub) (top : Bool) : ∀ (n : Nat) (st : ReSt) (l : List Nd) (st' : ReSt) (d : Nd), st.pos ≤ s.length →
    choiceM ere s sub top n st l = .ok (st', d) → nsize d + 3 * st.pos ≤ 2 + nsizes l + 3 * st'.pos := by
  intro n
  induction n with
  | zero => intro st l st' d _ h; cases h
  | succ n ih =>
    intro st l st' d h1 h
    have hsn : ∀ x, nsizes (l ++ [x]) = nsizes l + nsize x := fun x => by rw [nsizes_append]; simp [nsizes]
    rw [choiceM] at h
    split at h
    · cases h
    · rename_i st1 d1 hb
      have z1 := branch_size ere s sub hs hmv top _ _ _ _ _ _ _ h1 hb
      simp only [nsizes] at z1
      split at h
      · rename_i h124
        have hp := op_pos ere
        have := ih ((if ere then st1 else st1.mark 124).to (st1.pos + opLen ere)) _ _ _ (op_len h124) h
        rw [hsn, show ((if ere then st1 else st1.mark 124).to (st1.pos + opLen ere)).pos = st1.pos + opLen ere from rfl] at this
        omega
      · injection h with h; injection h with h2 h3; subst h2 h3
        have := chosen_size (l ++ [d1])
        rw [hsn] at this
        omega
theorem reg_size (ere : Bool) (s : List UInt8) : ∀ (k : Nat) (st st' : ReSt) (d : Nd), st.pos ≤ s.length → regM ere s k st = .ok (st', d) → nsize d + 3 * st.pos ≤ 2 + 3 * st'.pos := by
  intro k
  induction k with
  | zero => intro st st' d hp h; have := choice_size ere s none (fun f hf => by cases hf) (fun f hf => by cases hf) false _ _ _ _ _ hp h; simp only [nsizes] at this; omega
  | succ k ih => intro st st' d hp h; have := choice_size ere s (some (regM ere s k)) (fun f hf => by injection hf with hf; subst hf; exact ih) (reg_subs ere s k).1 false _ _ _ _ _ hp h; simp only [nsizes] at this; omega
theorem whole_size {ere : Bool} {s : List UInt8} {st : ReSt} {d : Nd} (h : parseM ere s = .ok (st, d)) : nsize d ≤ 752 := by
  obtain ⟨hl, hc, _⟩ := whole_in h
  have h1 := choice_size ere s (some (regM ere s 11)) (fun f hf => by injection hf with hf; subst hf; exact reg_size ere s 11) (reg_subs ere s 11).1 false _ _ _ _ _ (Nat.zero_le _) hc
  have h2 := (choice_mv ere s (some (regM ere s 11)) (reg_subs ere s 11).1 false _ _ _ _ _ (Nat.zero_le _) hc).2
  simp only [nsizes] at h1
  omega
/-- No more marks than signs. -/
def Mks (st st' : ReSt) : Prop := st'.marks.length + st.pos ≤ st.marks.length + st'.pos
theorem mark_len (st : ReSt) (c : Nat) : (st.mark c).marks.length = st.marks.length + 1 := by unfold ReSt.mark; simp
theorem repM_mks (ere : Bool) (s : List UInt8) : ∀ (n : Nat) (st : ReSt) (d : Nd) (st' : ReSt) (d' : Nd), repM ere s n st d = .ok (st', d') → Mks st st' := by
  intro n
  induction n with
  | zero => intro st d st' d' h; cases h
  | succ n ih =>
    intro st d st' d' h
    rw [repM] at h
    cases hr : repAt ere s st.pos with
    | none => rw [hr] at h; injection h with h; injection h with h1 h2; subst h1 h2; exact Nat.le_refl _
    | bad => rw [hr] at h; cases h
    | some mn mx c j =>
      rw [hr] at h
      have m := (rep_mv _ _ _ _ _ _ _ hr).1
      have := ih _ _ _ _ h
      unfold Mks at this ⊢
      rw [show ((if c = 0 then st else st.mark c).to j).pos = j from rfl, show ((if c = 0 then st else st.mark c).to j).marks = (if c = 0 then st else st.mark c).marks from rfl] at this
      by_cases hc : c = 0
      · rw [if_pos hc] at this; omega
      · rw [if_neg hc, mark_len] at this; omega
def SubMks (s : List UInt8) (sub : Option (ReSt → ReRes (ReSt × Nd))) : Prop := ∀ f, sub = some f → ∀ st st' d, st.pos ≤ s.length → f st = .ok (st', d) → Mks st st'
theorem atom_mks (ere : Bool) (s : List UInt8) (sub : Option (ReSt → ReRes (ReSt × Nd))) (hs : SubMks s sub) (hmv : SubMv s sub) (st st' : ReSt) (d : Nd) (hl : st.pos < s.length) (h : atomM ere s sub st = .ok (st', d)) : Mks st st' := by
  have hp := op_pos ere
  have hm := (atom_mv ere s sub hmv st st' d hl h).1
  unfold Mks
  unfold atomM at h
  split at h
  · rename_i h40
    unfold grpM at h
    split at h
    · cases h
    · rename_i f
      split at h
      · cases h
      · rename_i st1 d1 he
        split at h
        · injection h with h
          injection h with h1 h2
          subst h1 h2
          have := hs f rfl _ _ _ (op_len h40) he
          unfold Mks at this
          simp only at this ⊢
          omega
        · cases h
  · split at h
    · cases h
    · split at h
      · split at h
        · injection h with h; injection h with h1 h2; subst h1; exact Nat.add_le_add_left (Nat.le_of_lt hm) _
        · cases h
      · split at h
        · injection h with h; injection h with h1 h2; subst h1; exact Nat.add_le_add_left (Nat.le_of_lt hm) _
        · split at h
          · split at h
            · have hpos := escM_mv ere st st' _ d h
              unfold escM at h
              split at h
              · split at h
                · injection h with h; injection h with h1 h2; subst h1
                  cases ere with
                  | true => show (st.mark _).marks.length + _ ≤ _; rw [mark_len, hpos]; omega
                  | false => show st.marks.length + _ ≤ _; rw [hpos]; omega
                · cases h
              · split at h
                · cases h
                · rename_i x m _
                  injection h with h; injection h with h1 h2; subst h1
                  cases m with
                  | true => show (st.mark _).marks.length + _ ≤ _; rw [mark_len, hpos]; omega
                  | false => show st.marks.length + _ ≤ _; rw [hpos]; omega
            · cases h
          · injection h with h; injection h with h1 h2; subst h1; exact Nat.add_le_add_left (Nat.le_of_lt hm) _
theorem branch_mks (ere : Bool) (s : List UInt8) (sub : Option (ReSt → ReRes (ReSt × Nd))) (hs : SubMks s sub) (hmv : SubMv s sub) (top : Bool) (begin : Nat) : ∀ (n : Nat) (st : ReSt) (parts : List Nd) (front : Bool) (st' : ReSt) (d : Nd), st.pos ≤ s.length →
    branchM ere s sub top begin n st parts front = .ok (st', d) → Mks st st' := by
  intro n
  induction n with
  | zero => intro st parts front st' d _ h; cases h
  | succ n ih =>
    intro st parts front st' d h1 h
    rw [branchM] at h
    split at h
    · injection h with h; injection h with h2 h3; subst h2 h3
      exact Nat.le_refl _
    · rename_i he
      have hlt : st.pos < s.length := by
        simp only [Bool.or_eq_true, decide_eq_true_eq, not_or] at he
        omega
      have hto : Mks (st.to (st.pos + 1)) st' → Mks st st' := fun h => by
        unfold Mks at h ⊢
        rw [show (st.to (st.pos + 1)).pos = st.pos + 1 from rfl, show (st.to (st.pos + 1)).marks = st.marks from rfl] at h
        omega
      split at h
      · exact hto (ih (st.to (st.pos + 1)) _ _ _ _ (show st.pos + 1 ≤ _ by omega) h)
      · split at h
        · exact hto (ih (st.to (st.pos + 1)) _ _ _ _ (show st.pos + 1 ≤ _ by omega) h)
        · split at h
          · cases h
          · split at h
            · cases h
            · rename_i st1 d1 ha
              have m1 := atom_mv ere s sub hmv st st1 d1 hlt ha
              have z1 := atom_mks ere s sub hs hmv st st1 d1 hlt ha
              split at h
              · cases h
              · rename_i st2 d2 hr
                have m2 := repM_mv ere s _ _ _ _ _ m1.2 hr
                have z2 := repM_mks ere s _ _ _ _ _ hr
                have := ih st2 _ _ _ _ m2.2 h
                unfold Mks at *
                omega
theorem choice_mks (ere : Bool) (s : List UInt8) (sub : Option (ReSt → ReRes (ReSt × Nd))) (hs : SubMks s sub) (hmv : SubMv s sub) (top : Bool) : ∀ (n : Nat) (st : ReSt) (l : List Nd) (st' : ReSt) (d : Nd), st.pos ≤ s.length →
    choiceM ere s sub top n st l = .ok (st', d) → Mks st st' := by
  intro n
  induction n with
  | zero => intro st l st' d _ h; cases h
  | succ n ih =>
    intro st l st' d h1 h
    rw [choiceM] at h
    split at h
    · cases h
    · rename_i st1 d1 hb
      have z1 := branch_mks ere s sub hs hmv top _ _ _ _ _ _ _ h1 hb
      split at h
      · rename_i h124
        have hp := op_pos ere
        have := ih ((if ere then st1 else st1.mark 124).to (st1.pos + opLen ere)) _ _ _ (op_len h124) h
        unfold Mks at *
        rw [show ((if ere then st1 else st1.mark 124).to (st1.pos + opLen ere)).pos = st1.pos + opLen ere from rfl, show ((if ere then st1 else st1.mark 124).to (st1.pos + opLen ere)).marks = (if ere then st1 else st1.mark 124).marks from rfl] at this
        cases ere with
        | true => simp only [if_true] at this; omega
        | false => simp only [Bool.false_eq_true, if_false, mark_len] at this; omega
      · injection h with h; injection h with h2 h3; subst h2 h3
        exact z1
theorem reg_mks (ere : Bool) (s : List UInt8) : ∀ (k : Nat) (st st' : ReSt) (d : Nd), st.pos ≤ s.length → regM ere s k st = .ok (st', d) → Mks st st' := by
  intro k
  induction k with
  | zero => intro st st' d hp h; exact choice_mks ere s none (fun f hf => by cases hf) (fun f hf => by cases hf) false _ _ _ _ _ hp h
  | succ k ih => intro st st' d hp h; exact choice_mks ere s (some (regM ere s k)) (fun f hf => by injection hf with hf; subst hf; exact ih) (reg_subs ere s k).1 false _ _ _ _ _ hp h
theorem whole_mks {ere : Bool} {s : List UInt8} {st : ReSt} {d : Nd} (h : parseM ere s = .ok (st, d)) : st.marks.length ≤ s.length := by
  obtain ⟨hl, hc, _⟩ := whole_in h
  have h1 := choice_mks ere s (some (regM ere s 11)) (fun f hf => by injection hf with hf; subst hf; exact reg_mks ere s 11) (reg_subs ere s 11).1 false _ _ _ _ _ (Nat.zero_le _) hc
  have h2 := (choice_mv ere s (some (regM ere s 11)) (reg_subs ere s 11).1 false _ _ _ _ _ (Nat.zero_le _) hc).2
  unfold Mks at h1
  rw [show reZero.pos = 0 from rfl, show reZero.marks.length = 0 from rfl] at h1
  omega
end Go.Proofs.YtbbcjclkklmoaaaDoor
