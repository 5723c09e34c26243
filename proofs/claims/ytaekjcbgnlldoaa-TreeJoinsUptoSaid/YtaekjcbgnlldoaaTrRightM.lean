/- Whether a tree is right, by its head and its parts. No program is named here. -/
import Derived.Test.YtaekjcbgnlldoaaNdRightM
namespace Go.Proofs.Ytaekjcbgnlldoaa

/-- Is a node's head right? -/
def nfit : Nd → Int → List Int → Bool
  | .cat l, _, _ => decide (2 ≤ l.length) && l.all inCat
  | .alt l, _, _ => decide (2 ≤ l.length) && l.all inAlt
  | .rep d mn mx, _, _ => okRep mn mx && inRep d
  | .group n _, o, _ => decide (n = o + 1)
  | .back n, _, c => c.contains n
  | _, _, _ => true
def nopen (d : Nd) (o : Int) : Int := if ngrp d then o + 1 else o
def nclose (d : Nd) (r : Int × List Int) : Int × List Int := if ngrp d then (r.1, r.2 ++ [nnum d]) else r
theorem nrights_one (d : Nd) (o : Int) (c : List Int) : nrights [d] o c = nright d o c := by
  rw [nrights]
  cases nright d o c with
  | none => rfl
  | some r => rfl
theorem nright_kids (d : Nd) (o : Int) (c : List Int) : nright d o c = if nfit d o c then (nrights (nkids d) (nopen d o) c).map (nclose d) else none := by
  have hid : ∀ d, ngrp d = false → ∀ x : Option (Int × List Int), x.map (nclose d) = x := by
    intro d hd x
    have : nclose d = id := by funext r; simp [nclose, hd]
    rw [this, Option.map_id]; rfl
  cases d with
  | empty => rfl
  | one s => rfl
  | cat l => rw [hid _ rfl]; rfl
  | alt l => rw [hid _ rfl]; rfl
  | rep d mn mx => rw [hid _ rfl]; show _ = if _ then nrights [d] o c else none; rw [nrights_one]; rfl
  | group n d =>
    show _ = if decide (n = o + 1) = true then (nrights [d] (o + 1) c).map _ else none
    rw [nrights_one, nright]
    by_cases h : n = o + 1
    · rw [if_pos h, if_pos (decide_eq_true h)]; rfl
    · rw [if_neg h, if_neg (by simpa using h)]
  | back n => rw [hid _ rfl]; rfl
  | start => rfl
  | fin => rfl
theorem nrights_append (l m : List Nd) (o : Int) (c : List Int) : nrights (l ++ m) o c = (nrights l o c).bind fun r => nrights m r.1 r.2 := by
  induction l generalizing o c with
  | nil => rfl
  | cons d ds ih =>
    rw [List.cons_append, nrights, nrights]
    cases nright d o c with
    | none => rfl
    | some r => exact ih r.1 r.2
theorem nrights_take (l : List Nd) (i : Nat) (h : i < l.length) (o : Int) (c : List Int) : nrights (l.take (i + 1)) o c = (nrights (l.take i) o c).bind fun r => nright l[i] r.1 r.2 := by
  rw [List.take_succ_eq_append_getElem h, nrights_append]
  congr 1
  funext r
  exact nrights_one _ _ _
theorem nrights_no (l : List Nd) (i : Nat) (o : Int) (c : List Int) (h : nrights (l.take i) o c = none) : nrights l o c = none := by
  have h2 := nrights_append (l.take i) (l.drop i) o c
  rw [List.take_append_drop, h] at h2
  exact h2
mutual
theorem nright_count : ∀ (d : Nd) (o : Int) (c : List Int) (r : Int × List Int), nright d o c = some r → r.1 = o + ngroups d ∧ r.2.length = c.length + ngroups d
  | .cat l, o, c, r, h => by
    rw [nright] at h
    split at h
    · rw [ngroups]; exact nrights_count l o c r h
    · cases h
  | .alt l, o, c, r, h => by
    rw [nright] at h
    split at h
    · rw [ngroups]; exact nrights_count l o c r h
    · cases h
  | .rep d mn mx, o, c, r, h => by
    rw [nright] at h
    split at h
    · rw [ngroups]; exact nright_count d o c r h
    · cases h
  | .group n d, o, c, r, h => by
    rw [nright] at h
    split at h
    · cases hd : nright d (o + 1) c with
      | none => rw [hd] at h; cases h
      | some q =>
        rw [hd] at h
        have h1 := nright_count d (o + 1) c q hd
        injection h with h
        subst h
        rw [ngroups]
        simp
        omega
    · cases h
  | .back n, o, c, r, h => by
    rw [nright] at h
    split at h
    · cases h; simp [ngroups]
    · cases h
  | .empty, o, c, r, h => by cases h; simp [ngroups]
  | .one _, o, c, r, h => by cases h; simp [ngroups]
  | .start, o, c, r, h => by cases h; simp [ngroups]
  | .fin, o, c, r, h => by cases h; simp [ngroups]
theorem nrights_count : ∀ (l : List Nd) (o : Int) (c : List Int) (r : Int × List Int), nrights l o c = some r → r.1 = o + ngroupss l ∧ r.2.length = c.length + ngroupss l
  | [], o, c, r, h => by cases h; simp [ngroupss]
  | d :: ds, o, c, r, h => by
    rw [nrights] at h
    cases hd : nright d o c with
    | none => rw [hd] at h; cases h
    | some q =>
      rw [hd] at h
      have h1 := nright_count d o c q hd
      have h2 := nrights_count ds q.1 q.2 r h
      rw [ngroupss]
      omega
end
/-- A known node's kind, where it stands. -/
theorem known_kind (t : Tr) (h : tknown t = true) : 0 ≤ t.kind ∧ t.kind ≤ 8 := by
  obtain ⟨k, s, mn, mx, num, ps⟩ := t
  rw [tknown] at h
  simp at h
  exact ⟨h.1.1, h.1.2⟩
theorem tknowns_mem (ps : List Tr) (h : tknowns ps = true) (i : Nat) (hi : i < ps.length) : tknown ps[i] = true := by
  cases hk : tknown ps[i] with
  | true => rfl
  | false => rw [tknowns_all ps i hi hk] at h; cases h
theorem known_kids (t : Tr) (h : tknown t = true) (i : Nat) (hi : i < (tkids t).length) : tknown (tkids t)[i] = true := by
  have hp : tknowns t.parts = true := by
    obtain ⟨k, s, mn, mx, num, ps⟩ := t
    rw [tknown] at h
    simp at h
    exact h.2
  by_cases h23 : t.kind = 2 ∨ t.kind = 3
  · have hk : tkids t = t.parts := by unfold tkids; rw [if_pos h23]
    simp only [hk]
    exact tknowns_mem _ hp i (by rw [← hk]; exact hi)
  · by_cases h45 : t.kind = 4 ∨ t.kind = 5
    · have hk : tkids t = [tof t] := by unfold tkids; rw [if_neg h23, if_pos h45]
      simp only [hk]
      have hi0 : i = 0 := by rw [hk] at hi; simpa using hi
      subst hi0
      show tknown (tof t) = true
      unfold tof
      cases hps : t.parts with
      | nil => rfl
      | cons x xs => rw [hps, tknowns] at hp; simp at hp; exact hp.1
    · exfalso
      have hk : tkids t = [] := by unfold tkids; rw [if_neg h23, if_neg h45]
      rw [hk] at hi
      simp at hi
theorem canon_cases (t : Tr) (h : tknown t = true) : (t.kind = 0 ∧ canon t = .empty) ∨ (t.kind = 1 ∧ ∃ s, canon t = .one s) ∨ (t.kind = 2 ∧ ∃ l, canon t = .cat l) ∨ (t.kind = 3 ∧ ∃ l, canon t = .alt l) ∨ (t.kind = 4 ∧ ∃ d a b, canon t = .rep d a b) ∨
    (t.kind = 5 ∧ ∃ n d, canon t = .group n d) ∨ (t.kind = 6 ∧ ∃ n, canon t = .back n) ∨ (t.kind = 7 ∧ canon t = .start) ∨ (t.kind = 8 ∧ canon t = .fin) := by
  have hk := known_kind t h
  rcases (show t.kind = 0 ∨ t.kind = 1 ∨ t.kind = 2 ∨ t.kind = 3 ∨ t.kind = 4 ∨ t.kind = 5 ∨ t.kind = 6 ∨ t.kind = 7 ∨ t.kind = 8 by omega) with h | h | h | h | h | h | h | h | h
  · exact .inl ⟨h, canon_0 t (by omega) (by omega) (by omega) (by omega) (by omega) (by omega) (by omega) (by omega)⟩
  · exact .inr (.inl ⟨h, _, canon_1 t h⟩)
  · exact .inr (.inr (.inl ⟨h, _, canon_2 t h⟩))
  · exact .inr (.inr (.inr (.inl ⟨h, _, canon_3 t h⟩)))
  · exact .inr (.inr (.inr (.inr (.inl ⟨h, _, _, _, (canon_4 t h).1⟩))))
  · exact .inr (.inr (.inr (.inr (.inr (.inl ⟨h, _, _, (canon_5 t h).1⟩)))))
  · exact .inr (.inr (.inr (.inr (.inr (.inr (.inl ⟨h, _, canon_6 t h⟩))))))
  · exact .inr (.inr (.inr (.inr (.inr (.inr (.inr (.inl ⟨h, canon_7 t h⟩)))))))
  · exact .inr (.inr (.inr (.inr (.inr (.inr (.inr (.inr ⟨h, canon_8 t h⟩)))))))
theorem canon_inCat (t : Tr) (h : tknown t = true) : inCat (canon t) = !((t.kind == 3) || ((t.kind == 0) || (t.kind == 2))) := by
  rcases canon_cases t h with ⟨h, e⟩ | ⟨h, _, e⟩ | ⟨h, _, e⟩ | ⟨h, _, e⟩ | ⟨h, _, _, _, e⟩ | ⟨h, _, _, e⟩ | ⟨h, _, e⟩ | ⟨h, e⟩ | ⟨h, e⟩ <;> rw [e, h] <;> rfl
theorem canon_inAlt (t : Tr) (h : tknown t = true) : inAlt (canon t) = !(t.kind == 3) := by
  rcases canon_cases t h with ⟨h, e⟩ | ⟨h, _, e⟩ | ⟨h, _, e⟩ | ⟨h, _, e⟩ | ⟨h, _, _, _, e⟩ | ⟨h, _, _, e⟩ | ⟨h, _, e⟩ | ⟨h, e⟩ | ⟨h, e⟩ <;> rw [e, h] <;> rfl
theorem canon_inRep (t : Tr) (h : tknown t = true) : inRep (canon t) = !((((((t.kind == 0) || (t.kind == 7)) || (t.kind == 8)) || (t.kind == 2))) || (t.kind == 3)) := by
  rcases canon_cases t h with ⟨h, e⟩ | ⟨h, _, e⟩ | ⟨h, _, e⟩ | ⟨h, _, e⟩ | ⟨h, _, _, _, e⟩ | ⟨h, _, _, e⟩ | ⟨h, _, e⟩ | ⟨h, e⟩ | ⟨h, e⟩ <;> rw [e, h] <;> rfl
theorem all_take {α : Type} (p : α → Bool) (l : List α) (i : Nat) (h : i < l.length) : (l.take (i + 1)).all p = ((l.take i).all p && p l[i]) := by
  rw [List.take_succ_eq_append_getElem h, List.all_append]
  simp
theorem all_no {α : Type} (p : α → Bool) (l : List α) (i : Nat) (h : i < l.length) (hp : p l[i] = false) : l.all p = false := by
  rw [← Bool.not_eq_true]
  intro ha
  have := List.all_eq_true.1 ha l[i] (List.getElem_mem h)
  rw [hp] at this
  cases this
theorem contains_take (c : List Int) (n : Int) (i : Nat) (h : i < c.length) : (c.take (i + 1)).contains n = ((c.take i).contains n || (c[i] == n)) := by
  rw [List.take_succ_eq_append_getElem h]
  generalize c.take i = l
  generalize c[i] = m
  cases hh : (l.contains n || (m == n)) with
  | true =>
    simp at hh
    simp
    rcases hh with h | h
    · exact .inl h
    · exact .inr h.symm
  | false =>
    simp at hh
    simp
    exact ⟨hh.1, fun e => hh.2 e.symm⟩
end Go.Proofs.Ytaekjcbgnlldoaa
