/- Plain mathematics of bracket expressions: what stands ahead, or behind, changes nothing; bytes in brackets. No program is named here. -/
import Derived.Test.YtehikndlcepkgaaDoorBrFacts
namespace Go.Proofs.YtehikndlcepkgaaDoor

theorem byt_app (p s : List UInt8) (k : Nat) : byt (p ++ s) (k + p.length) = byt s k := by
  unfold byt
  rw [List.getD_eq_getElem?_getD, List.getD_eq_getElem?_getD, List.getElem?_append_right (by omega), Nat.add_sub_cancel]
theorem byt_ext (s x : List UInt8) (k : Nat) (h : k < s.length) : byt (s ++ x) k = byt s k := by
  unfold byt
  rw [List.getD_eq_getElem?_getD, List.getD_eq_getElem?_getD, List.getElem?_append_left h]
theorem fnd_app (p s : List UInt8) (o e : Nat) : fnd (p ++ s) o (e + p.length) = (fnd s o e).map (· + p.length) := by
  obtain ⟨n, hn⟩ : ∃ n, n = s.length - e := ⟨_, rfl⟩
  induction n generalizing e with
  | zero =>
    rw [fnd.eq_1 s o e, fnd.eq_1 (p ++ s) o (e + p.length), if_neg (show ¬ e + 1 < s.length by omega), if_neg (show ¬ e + p.length + 1 < (p ++ s).length by rw [List.length_append]; omega)]
    rfl
  | succ n ih =>
    have ih := ih (e + 1) (by omega)
    rw [fnd.eq_1 s o e, fnd.eq_1 (p ++ s) o (e + p.length)]
    by_cases h : e + 1 < s.length
    · rw [if_pos h, if_pos (show e + p.length + 1 < (p ++ s).length by rw [List.length_append]; omega), byt_app, show e + p.length + 1 = (e + 1) + p.length by omega, byt_app, ih]
      by_cases h2 : byt s e = o ∧ byt s (e + 1) = 93
      · rw [if_pos h2, if_pos h2]; rfl
      · rw [if_neg h2, if_neg h2]
    · rw [if_neg h, if_neg (show ¬ e + p.length + 1 < (p ++ s).length by rw [List.length_append]; omega)]
      rfl
theorem sub_app (p s : List UInt8) (i j : Nat) : sub (p ++ s) (i + p.length) (j + p.length) = sub s i j := by
  unfold sub
  rw [show j + p.length - (i + p.length) = j - i by omega, show i + p.length = p.length + i by omega, ← List.drop_drop, List.drop_left]
theorem opens_app (p s : List UInt8) (k : Nat) : opens (p ++ s) (k + p.length) = opens s k := by
  unfold opens
  rw [byt_app, show k + p.length + 1 = (k + 1) + p.length by omega, byt_app, List.length_append]
  congr 2
  exact decide_eq_decide.2 ⟨fun h => by omega, fun h => by omega⟩
/-- An item further on. -/
def Itm.up (a : Itm) (d : Nat) : Itm := ⟨a.set, a.may, if a.err = 0 then a.next + d else 0, a.err, if a.err = 0 then 0 else a.place + d⟩
theorem boxed_app (p s : List UInt8) (k e : Nat) : boxed (p ++ s) (k + p.length) (e + p.length) = (boxed s k e).up p.length := by
  unfold boxed
  rw [show k + p.length + 1 = (k + 1) + p.length by omega, byt_app, show k + p.length + 2 = (k + 2) + p.length by omega, byt_app, sub_app]
  by_cases h1 : byt s (k + 1) = 58
  · rw [if_pos h1, if_pos h1]
    by_cases h2 : clsOk (sub s (k + 2) e) = true
    · rw [if_pos h2, if_pos h2]
      unfold Itm.up
      simp only [if_true]
      rw [show e + p.length + 2 = e + 2 + p.length by omega]
    · rw [if_neg h2, if_neg h2]
      rfl
  · rw [if_neg h1, if_neg h1]
    by_cases h2 : e = k + 3
    · rw [if_pos h2, if_pos (by omega)]
      unfold Itm.up
      simp only [if_true]
      rw [show e + p.length + 2 = e + 2 + p.length by omega]
    · rw [if_neg h2, if_neg (by omega)]
      rfl
theorem itm_app (p s : List UInt8) (k : Nat) : itm (p ++ s) (k + p.length) = (itm s k).up p.length := by
  unfold itm
  by_cases h : s.length ≤ k
  · rw [if_pos h, if_pos (by rw [List.length_append]; omega)]
    unfold Itm.up
    rw [List.length_append, Nat.add_comm p.length]
    rfl
  · rw [if_neg h, if_neg (by rw [List.length_append]; omega), opens_app]
    cases ho : opens s k
    · rw [if_neg (by decide), if_neg (by decide), byt_app]
      unfold Itm.up
      simp only [if_true]
      rw [show k + p.length + 1 = k + 1 + p.length by omega]
    · rw [if_pos rfl, if_pos rfl]
      have hf : from1 (p ++ s) (k + p.length) = from1 s k + p.length := by
        unfold from1
        rw [show k + p.length + 1 = (k + 1) + p.length by omega, byt_app]
        by_cases h1 : byt s (k + 1) = 58
        · rw [if_pos h1, if_pos h1]; omega
        · rw [if_neg h1, if_neg h1]; omega
      rw [hf, show k + p.length + 1 = (k + 1) + p.length by omega, byt_app, fnd_app]
      cases fnd s (byt s (k + 1)) (from1 s k) with
      | none =>
        unfold Itm.up
        rw [List.length_append, Nat.add_comm p.length]
        rfl
      | some e => exact boxed_app p s k e
/-- What stands at a place, further on. -/
def elU (d : Nat) : Except (Nat × Nat) (OSet × Nat) → Except (Nat × Nat) (OSet × Nat)
  | .ok (t, j) => .ok (t, j + d)
  | .error (e, q) => .error (e, q + d)
theorem elm_app (p s : List UInt8) (k : Nat) : elm (p ++ s) (k + p.length) = elU p.length (elm s k) := by
  unfold elm
  simp only [itm_app]
  by_cases h1 : (itm s k).err = 0
  · have hu : ((itm s k).up p.length).err = 0 := h1
    have hn : ((itm s k).up p.length).next = (itm s k).next + p.length := by unfold Itm.up; rw [if_pos h1]
    rw [if_neg (show ¬ ((itm s k).up p.length).err ≠ 0 by rw [hu]; simp), if_neg (show ¬ (itm s k).err ≠ 0 by rw [h1]; simp), hn, show (itm s k).next + p.length + 1 = (itm s k).next + 1 + p.length by omega, byt_app, byt_app, List.length_append]
    by_cases h2 : (itm s k).next + 1 < s.length ∧ byt s (itm s k).next = 45 ∧ byt s ((itm s k).next + 1) ≠ 93
    · rw [if_pos h2, if_pos ⟨by omega, h2.2⟩]
      simp only [itm_app]
      generalize itm s ((itm s k).next + 1) = b
      by_cases h3 : b.err = 0
      · have hu3 : (b.up p.length).err = 0 := h3
        have hn3 : (b.up p.length).next = b.next + p.length := by unfold Itm.up; rw [if_pos h3]
        rw [if_neg (show ¬ (b.up p.length).err ≠ 0 by rw [hu3]; simp), if_neg (show ¬ b.err ≠ 0 by rw [h3]; simp), hn3]
        show (if ((itm s k).may && b.may && decide (lst (itm s k).set ≤ lst b.set)) = true then _ else _) = _
        by_cases h4 : ((itm s k).may && b.may && decide (lst (itm s k).set ≤ lst b.set)) = true
        · rw [if_pos h4, if_pos h4]; rfl
        · rw [if_neg h4, if_neg h4]; rfl
      · have hu3 : (b.up p.length).err ≠ 0 := h3
        have hp3 : (b.up p.length).place = b.place + p.length := by unfold Itm.up; simp only [h3, if_false]
        rw [if_pos hu3, if_pos h3, hp3]
        rfl
    · rw [if_neg h2, if_neg (by rintro ⟨h3, h4⟩; exact h2 ⟨by omega, h4⟩)]
      rfl
  · have hu : ((itm s k).up p.length).err ≠ 0 := h1
    have hp : ((itm s k).up p.length).place = (itm s k).place + p.length := by unfold Itm.up; simp only [h1, if_false]
    rw [if_pos hu, if_pos h1, hp]
    rfl
theorem rst_app (p s : List UInt8) (fl : Bool) (k : Nat) (acc : OSet) : rst (p ++ s) fl (k + p.length) acc = elU p.length (rst s fl k acc) := by
  fun_induction rst s fl k acc with
  | case1 fl k acc h =>
    rw [rst, if_pos ⟨h.1, by rw [List.length_append]; omega, by rw [byt_app]; exact h.2.2⟩]
    show _ = Except.ok (acc, k + 1 + p.length)
    rw [show k + p.length + 1 = k + 1 + p.length by omega]
  | case2 fl k acc hn e he =>
    exact rst_err _ _ _ _ _ (by rw [byt_app, List.length_append]; rintro ⟨h1, h2, h3⟩; exact hn ⟨h1, by omega, h3⟩) (by rw [elm_app, he]; rfl)
  | case3 fl k acc hn t j he ih =>
    rw [rst_ok _ _ _ _ t (j + p.length) (by rw [byt_app, List.length_append]; rintro ⟨h1, h2, h3⟩; exact hn ⟨h1, by omega, h3⟩) (by rw [elm_app, he]; rfl)]
    exact ih
/-- What stands behind the end changes nothing. -/
theorem fnd_ext (s x : List UInt8) (o e y : Nat) (h : fnd s o e = some y) : fnd (s ++ x) o e = some y := by
  fun_induction fnd s o e with
  | case1 e h1 h2 =>
    injection h with h
    subst h
    exact fnd_here _ _ _ (by rw [List.length_append]; omega) (by rw [byt_ext _ _ _ (by omega), byt_ext _ _ _ h1]; exact h2)
  | case2 e h1 h2 ih =>
    rw [fnd_none_step _ _ _ (by rw [List.length_append]; omega) (by rw [byt_ext _ _ _ (by omega), byt_ext _ _ _ h1]; exact h2)]
    exact ih h
  | case3 e h1 => cases h
theorem sub_ext (s x : List UInt8) (i j : Nat) (h : j ≤ s.length) : sub (s ++ x) i j = sub s i j := by
  unfold sub
  by_cases hi : i ≤ s.length
  · rw [List.drop_append_of_le_length hi, List.take_append_of_le_length (by rw [List.length_drop]; omega)]
  · rw [show j - i = 0 by omega]; rfl
theorem itm_ext (s x : List UInt8) (k : Nat) (h : (itm s k).err = 0) (hn : (itm s k).next < s.length) : itm (s ++ x) k = itm s k := by
  have hk := (itm_next s k h).1
  unfold itm at h hn hk ⊢
  have h0 : ¬ s.length ≤ k := by
    intro h0
    rw [if_pos h0] at h
    simp at h
  rw [if_neg h0] at h hn hk ⊢
  rw [if_neg (show ¬ (s ++ x).length ≤ k by rw [List.length_append]; omega)]
  by_cases h1 : k + 1 < s.length
  · have ho : opens (s ++ x) k = opens s k := by
      unfold opens
      rw [byt_ext _ _ _ (by omega), byt_ext _ _ _ h1, decide_eq_true h1, decide_eq_true (show k + 1 < (s ++ x).length by rw [List.length_append]; omega)]
    rw [ho]
    cases hop : opens s k
    · rw [if_neg (by decide), if_neg (by decide), byt_ext _ _ _ (by omega)]
    · rw [hop, if_pos rfl] at h hn hk
      rw [if_pos rfl, if_pos rfl]
      have hf : from1 (s ++ x) k = from1 s k := by unfold from1; rw [byt_ext _ _ _ h1]
      rw [hf, byt_ext _ _ _ h1]
      cases hfn : fnd s (byt s (k + 1)) (from1 s k) with
      | none => rw [hfn] at h; simp at h
      | some e =>
        rw [fnd_ext _ _ _ _ _ hfn]
        have hge := fnd_ge _ _ _ _ hfn
        have hfr : k + 2 ≤ from1 s k := by unfold from1; split <;> omega
        simp only
        unfold boxed
        rw [byt_ext _ _ _ h1, sub_ext _ _ _ _ (by omega), byt_ext _ _ _ (by omega)]
  · have hop : opens s k = false := by unfold opens; rw [decide_eq_false h1]; simp
    rw [hop, if_neg (by decide)] at hn
    simp only at hn
    omega
theorem rst_lt (s : List UInt8) (fl : Bool) (k : Nat) (acc t : OSet) (j : Nat) (h : rst s fl k acc = .ok (t, j)) : k < s.length := by
  rcases Nat.lt_or_ge k s.length with h1 | h1
  · exact h1
  · exfalso
    have he : elm s k = .error (5, s.length) := by
      have hi : itm s k = ⟨oz, false, 0, 5, s.length⟩ := by unfold itm; rw [if_pos h1]
      unfold elm
      rw [hi]
      rfl
    rw [rst_err _ _ _ _ _ (by omega) he] at h
    cases h
theorem rst_last (s : List UInt8) (k : Nat) (acc t : OSet) (j : Nat) (h : rst s false k acc = .ok (t, j)) (hk : k + 1 = s.length) : byt s k = 93 := by
  by_cases h1 : byt s k = 93
  · exact h1
  · exfalso
    have hn : ¬ (false = false ∧ k < s.length ∧ byt s k = 93) := fun h2 => h1 h2.2.2
    cases he : elm s k with
    | error e => rw [rst_err _ _ _ _ _ hn he] at h; cases h
    | ok x =>
      obtain ⟨t', j'⟩ := x
      have hx := elm_next _ _ _ _ he
      rw [rst_ok _ _ _ _ _ _ hn he] at h
      have := rst_lt _ _ _ _ _ _ h
      omega
theorem elm_ext (s x : List UInt8) (k : Nat) (t : OSet) (j : Nat) (h : elm s k = .ok (t, j)) (hj : j < s.length) (hl : j + 1 = s.length → byt s j = 93) : elm (s ++ x) k = .ok (t, j) := by
  unfold elm at h ⊢
  simp only at h ⊢
  by_cases h1 : (itm s k).err = 0
  · rw [if_neg (show ¬ (itm s k).err ≠ 0 by rw [h1]; simp)] at h
    by_cases h2 : (itm s k).next + 1 < s.length ∧ byt s (itm s k).next = 45 ∧ byt s ((itm s k).next + 1) ≠ 93
    · rw [if_pos h2] at h
      have hi := itm_ext s x k h1 (by omega)
      by_cases h3 : (itm s ((itm s k).next + 1)).err = 0
      · rw [if_neg (show ¬ (itm s ((itm s k).next + 1)).err ≠ 0 by rw [h3]; simp)] at h
        by_cases h4 : ((itm s k).may && (itm s ((itm s k).next + 1)).may && decide (lst (itm s k).set ≤ lst (itm s ((itm s k).next + 1)).set)) = true
        · rw [if_pos h4] at h
          have hnx : (itm s ((itm s k).next + 1)).next = j := by injection h with h; injection h
          have hi2 := itm_ext s x _ h3 (by omega)
          rw [hi, if_neg (show ¬ (itm s k).err ≠ 0 by rw [h1]; simp), if_pos ⟨by rw [List.length_append]; omega, by rw [byt_ext _ _ _ (by omega), byt_ext _ _ _ h2.1]; exact h2.2⟩, hi2, if_neg (show ¬ (itm s ((itm s k).next + 1)).err ≠ 0 by rw [h3]; simp), if_pos h4]
          exact h
        · rw [if_neg h4] at h
          cases h
      · rw [if_pos (show (itm s ((itm s k).next + 1)).err ≠ 0 from h3)] at h
        cases h
    · rw [if_neg h2] at h
      have hnx : (itm s k).next = j := by injection h with h; injection h
      have hi := itm_ext s x k h1 (by omega)
      rw [hi, if_neg (show ¬ (itm s k).err ≠ 0 by rw [h1]; simp), if_neg ?_]
      · exact h
      · rw [hnx] at h2 ⊢
        rintro ⟨_, h5, h6⟩
        rw [byt_ext _ _ _ hj] at h5
        by_cases h7 : j + 1 < s.length
        · rw [byt_ext _ _ _ h7] at h6
          exact h2 ⟨h7, h5, h6⟩
        · have := hl (by omega)
          omega
  · rw [if_pos (show (itm s k).err ≠ 0 from h1)] at h
    cases h
theorem rst_ext (s x : List UInt8) (fl : Bool) (k : Nat) (acc t : OSet) (j : Nat) (h : rst s fl k acc = .ok (t, j)) : rst (s ++ x) fl k acc = .ok (t, j) := by
  fun_induction rst s fl k acc with
  | case1 fl k acc h1 =>
    rw [rst, if_pos ⟨h1.1, by rw [List.length_append]; omega, by rw [byt_ext _ _ _ h1.2.1]; exact h1.2.2⟩]
    exact h
  | case2 fl k acc hn e he => cases h
  | case3 fl k acc hn t' j' he ih =>
    have h1 := rst_lt _ _ _ _ _ _ h
    have h2 := elm_next _ _ _ _ he
    have h3 : j' + 1 = s.length → byt s j' = 93 := fun h4 => rst_last _ _ _ _ _ h h4
    rw [rst_ok _ _ _ _ _ _ (by rw [byt_ext _ _ _ (by omega)]; rintro ⟨h4, _, h5⟩; exact hn ⟨h4, by omega, h5⟩) (elm_ext s x k _ _ he h1 h3)]
    exact ih h
theorem rst_le (s : List UInt8) (fl : Bool) (k : Nat) (acc t : OSet) (j : Nat) (h : rst s fl k acc = .ok (t, j)) : j ≤ s.length := by
  fun_induction rst s fl k acc with
  | case1 fl k acc h1 =>
    injection h with h
    injection h with _ h
    omega
  | case2 fl k acc hn e he => cases h
  | case3 fl k acc hn t' j' he ih => exact ih h
/-- What stands behind ^. -/
theorem prs_nots (s : List UInt8) (h0 : 0 < s.length) (h94 : byt s 0 ≠ 94) : ∃ (t : OSet) (j : Nat) (e : Nat), prs s 0 = (t, (j : Int), e) ∧ ((e = 0 ∧ j ≤ s.length ∧ prs (94 :: s) 0 = (~~~t, ((j + 1 : Nat) : Int), 0)) ∨ (e ≠ 0 ∧ ∃ p : Int, prs (94 :: s) 0 = (oz, p, e))) := by
  have hc : car s 0 = false := by unfold car; rw [decide_eq_false h94, Bool.and_false]
  have hc2 : car (94 :: s) 0 = true := by unfold car; rfl
  have hr := rst_app [94] s true 0 oz
  have ho := prs_ok s 0 (by omega)
  have he := prs_err s 0 (by omega)
  have ho2 := prs_ok (94 :: s) 0 (by omega)
  have he2 := prs_err (94 :: s) 0 (by omega)
  rw [hc] at ho he
  rw [hc2] at ho2 he2
  simp only [Bool.false_eq_true, if_false, if_true] at ho he ho2 he2
  cases h : rst s true 0 oz with
  | ok x =>
    obtain ⟨t, j⟩ := x
    rw [h] at hr
    exact ⟨t, j, 0, ho t j h, Or.inl ⟨rfl, rst_le _ _ _ _ _ _ h, ho2 t (j + 1) hr⟩⟩
  | error x =>
    obtain ⟨e, p⟩ := x
    rw [h] at hr
    exact ⟨oz, p, e, he e p h, Or.inr ⟨rst_end _ _ _ _ _ _ h, ((p + 1 : Nat) : Int), he2 e (p + 1) hr⟩⟩
/-- What stands ahead, and behind. -/
theorem prs_behind (p s x : List UInt8) : ∃ (t : OSet) (j : Nat) (e : Nat), prs s 0 = (t, (j : Int), e) ∧ (e ≠ 0 ∨ (e = 0 ∧ j ≤ s.length ∧ prs (p ++ s ++ x) (p.length : Int) = (t, ((j + p.length : Nat) : Int), 0))) := by
  have ho := prs_ok s 0 (by omega)
  have he := prs_err s 0 (by omega)
  cases h : rst s true (if car s 0 then 0 + 1 else 0) oz with
  | error y =>
    obtain ⟨e, q⟩ := y
    exact ⟨oz, q, e, he e q h, Or.inl (rst_end _ _ _ _ _ _ h)⟩
  | ok y =>
    obtain ⟨t, j⟩ := y
    refine ⟨_, j, 0, ho t j h, Or.inr ⟨rfl, rst_le _ _ _ _ _ _ h, ?_⟩⟩
    have h0 : 0 < s.length := by
      have := rst_lt _ _ _ _ _ _ h
      omega
    have hc : car (p ++ (s ++ x)) p.length = car s 0 := by
      unfold car
      have := byt_app p (s ++ x) 0
      rw [Nat.zero_add] at this
      rw [this, byt_ext _ _ _ h0, decide_eq_true h0, decide_eq_true (show p.length < (p ++ (s ++ x)).length by simp only [List.length_append]; omega)]
    have h2 := rst_app p (s ++ x) true (if car s 0 then 0 + 1 else 0) oz
    rw [rst_ext s x _ _ _ _ _ h] at h2
    have h3 := prs_ok (p ++ (s ++ x)) p.length (by simp only [List.length_append]; omega) t (j + p.length) (by
      rw [hc, ← show (if car s 0 then 0 + 1 else 0) + p.length = (if car s 0 = true then p.length + 1 else p.length) by split <;> omega]
      exact h2)
    rw [List.append_assoc, h3, hc]
end Go.Proofs.YtehikndlcepkgaaDoor
