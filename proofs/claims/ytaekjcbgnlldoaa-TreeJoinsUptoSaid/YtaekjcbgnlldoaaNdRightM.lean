/- Whether a tree is right, event by event, and by its parts. No program is named here. -/
import Derived.Test.YtaekjcbgnlldoaaNdFitsM
import Derived.Test.YtaekjcbgnlldoaaNdEv
namespace Go.Proofs.Ytaekjcbgnlldoaa

/-- A group's number. -/
def nnum : Nd → Int
  | .group n _ => n
  | _ => 0
inductive RS where
  | no
  | bad
  | ok (es : List Bool)
/-- An event: what groups began, and which ended. -/
def rs (s : RS) (x : Nd × Bool) : RS := match s with
  | .ok es => if x.2 then (if fitsM x.1 es then .ok (if ngrp x.1 then es ++ [false] else es) else .no)
    else if ngrp x.1 then (if 1 ≤ nnum x.1 ∧ nnum x.1 ≤ (es.length : Int) then .ok (es.set (nnum x.1 - 1).toNat true) else .bad) else .ok es
  | .no => .no
  | .bad => .bad
def rsf (s : RS) (l : List (Nd × Bool)) : RS := l.foldl rs s
theorem rsf_append (s : RS) (l m : List (Nd × Bool)) : rsf s (l ++ m) = rsf (rsf s l) m := by unfold rsf; rw [List.foldl_append]
theorem rsf_cons (s : RS) (x : Nd × Bool) (l : List (Nd × Bool)) : rsf s (x :: l) = rsf (rs s x) l := rfl
theorem rsf_snoc (s : RS) (l : List (Nd × Bool)) (x : Nd × Bool) : rsf s (l ++ [x]) = rs (rsf s l) x := by rw [rsf_append]; rfl
theorem rsf_no (l : List (Nd × Bool)) : rsf .no l = .no := by
  induction l with
  | nil => rfl
  | cons x l ih => rw [rsf_cons]; exact ih
theorem rsf_bad (l : List (Nd × Bool)) : rsf .bad l = .bad := by
  induction l with
  | nil => rfl
  | cons x l ih => rw [rsf_cons]; exact ih
/-- The two ways of telling which groups were opened and closed. -/
def RR (es : List Bool) (o : Int) (c : List Int) : Prop := o = (es.length : Int) ∧ ∀ n : Int, c.contains n = (decide (1 ≤ n) && decide (n ≤ (es.length : Int)) && es.getD (n - 1).toNat false)
def ROk (es : List Bool) (s : RS) (r : Option (Int × List Int)) : Prop := match r with
  | none => s = .no
  | some q => ∃ es', s = .ok es' ∧ RR es' q.1 q.2 ∧ es.length ≤ es'.length
theorem rok_refl {es : List Bool} {o : Int} {c : List Int} (h : RR es o c) : ROk es (.ok es) (some (o, c)) := ⟨es, rfl, h, Nat.le_refl _⟩
theorem rs_in_no {d : Nd} {es : List Bool} (h : fitsM d es = false) : rs (.ok es) (d, true) = .no := by simp [rs, h]
theorem rs_in {d : Nd} {es : List Bool} (h : fitsM d es = true) (hg : ngrp d = false) : rs (.ok es) (d, true) = .ok es := by simp [rs, h, hg]
theorem rs_out {d : Nd} (s : RS) (hg : ngrp d = false) : rs s (d, false) = s := by cases s <;> simp [rs, hg]
theorem rs_close {n : Int} {d : Nd} {es : List Bool} (h1 : 1 ≤ n) (h2 : n ≤ (es.length : Int)) : rs (.ok es) (.group n d, false) = .ok (es.set (n - 1).toNat true) := by simp [rs, ngrp, nnum, h1, h2]
theorem rr_open {es : List Bool} {o : Int} {c : List Int} (h : RR es o c) : RR (es ++ [false]) (o + 1) c := by
  obtain ⟨h1, h2⟩ := h
  refine ⟨by simp; omega, fun n => ?_⟩
  rw [h2 n]
  by_cases hn : n ≤ (es.length : Int)
  · by_cases hn1 : 1 ≤ n
    · rw [List.getD_eq_getElem?_getD, List.getD_eq_getElem?_getD, List.getElem?_append_left (by omega)]
      rw [decide_eq_true hn, decide_eq_true (show n ≤ ((es ++ [false]).length : Int) by simp; omega)]
    · simp [hn1]
  · by_cases hn1 : n = (es.length : Int) + 1
    · subst hn1
      simp
    · simp [hn]
      intro _ hh
      omega
theorem rr_close {es : List Bool} {o : Int} {c : List Int} (h : RR es o c) {n : Int} (h1 : 1 ≤ n) (h2 : n ≤ (es.length : Int)) : RR (es.set (n - 1).toNat true) o (c ++ [n]) := by
  obtain ⟨g1, g2⟩ := h
  refine ⟨by simpa using g1, fun m => ?_⟩
  have hc : (c ++ [n]).contains m = (c.contains m || (m == n)) := by
    simp
    rfl
  rw [hc, g2 m, List.length_set]
  by_cases hm : m = n
  · subst hm
    rw [decide_eq_true h1, decide_eq_true h2, @List.getD_eq_getElem?_getD _ (es.set (m - 1).toNat true), List.getElem?_set_self (by omega)]
    simp
  · have hne : (n - 1).toNat ≠ (m - 1).toNat ∨ ¬ 1 ≤ m := by omega
    rw [beq_eq_false_iff_ne.2 hm, Bool.or_false]
    rcases hne with hne | hne
    · rw [List.getD_eq_getElem?_getD, List.getD_eq_getElem?_getD, List.getElem?_set_ne hne]
    · simp [hne]
theorem rs_len (l : List (Nd × Bool)) : ∀ (es es' : List Bool), rsf (.ok es) l = .ok es' → es'.length ≤ es.length + l.length := by
  induction l with
  | nil => intro es es' h; cases h; simp
  | cons x l ih =>
    intro es es' h
    rw [rsf_cons] at h
    cases hs : rs (.ok es) x with
    | no => rw [hs, rsf_no] at h; cases h
    | bad => rw [hs, rsf_bad] at h; cases h
    | ok e2 =>
      rw [hs] at h
      have h1 := ih e2 es' h
      have h2 : e2.length ≤ es.length + 1 := by
        unfold rs at hs
        simp only at hs
        split at hs
        · split at hs
          · injection hs with hs
            subst hs
            split <;> simp
          · cases hs
        · split at hs
          · split at hs
            · injection hs with hs
              subst hs
              simp
            · cases hs
          · injection hs with hs
            subst hs
            simp
      simp
      omega
mutual
theorem evs_right : ∀ (d : Nd) (es : List Bool) (o : Int) (c : List Int), RR es o c → ROk es (rsf (.ok es) (evs d)) (nright d o c)
  | .cat l, es, o, c, h => by
    rw [evs, rsf_cons, rsf_append, nright]
    cases hf : decide (2 ≤ l.length) && l.all inCat
    · rw [rs_in_no (show fitsM (.cat l) es = false from hf), rsf_no, rsf_no]; rfl
    · rw [rs_in (show fitsM (.cat l) es = true from hf) rfl, rsf_cons, rs_out _ rfl]
      exact evss_right l es o c h
  | .alt l, es, o, c, h => by
    rw [evs, rsf_cons, rsf_append, nright]
    cases hf : decide (2 ≤ l.length) && l.all inAlt
    · rw [rs_in_no (show fitsM (.alt l) es = false from hf), rsf_no, rsf_no]; rfl
    · rw [rs_in (show fitsM (.alt l) es = true from hf) rfl, rsf_cons, rs_out _ rfl]
      exact evss_right l es o c h
  | .rep d mn mx, es, o, c, h => by
    rw [evs, rsf_cons, rsf_append, nright]
    cases hf : okRep mn mx && inRep d
    · rw [rs_in_no (show fitsM (.rep d mn mx) es = false from hf), rsf_no, rsf_no]; rfl
    · rw [rs_in (show fitsM (.rep d mn mx) es = true from hf) rfl, rsf_cons, rs_out _ rfl]
      exact evs_right d es o c h
  | .group n d, es, o, c, h => by
    rw [evs, rsf_cons, rsf_append, nright]
    by_cases hn : n = o + 1
    · rw [if_pos hn]
      have hf : fitsM (.group n d) es = true := decide_eq_true (by rw [hn, h.1])
      have hi : rs (.ok es) (.group n d, true) = .ok (es ++ [false]) := by simp [rs, hf, ngrp]
      rw [hi]
      have ih := evs_right d (es ++ [false]) (o + 1) c (rr_open h)
      cases hr : nright d (o + 1) c with
      | none =>
        rw [hr] at ih
        rw [show rsf (.ok (es ++ [false])) (evs d) = .no from ih, rsf_no]
        rfl
      | some q =>
        rw [hr] at ih
        obtain ⟨es', h1, h2, h3⟩ := ih
        rw [h1, rsf_cons]
        simp at h3
        have hlo : 1 ≤ n := by have := h.1; omega
        have hhi : n ≤ (es'.length : Int) := by have := h.1; omega
        have ho : rs (.ok es') (.group n d, false) = .ok (es'.set (n - 1).toNat true) := by simp [rs, ngrp, nnum, hlo, hhi]
        rw [ho]
        exact ⟨_, rfl, rr_close h2 hlo hhi, by rw [List.length_set]; omega⟩
    · rw [if_neg hn]
      have hf : fitsM (.group n d) es = false := decide_eq_false (by rw [← h.1]; exact hn)
      rw [rs_in_no hf, rsf_no, rsf_no]
      rfl
  | .back n, es, o, c, h => by
    rw [evs, rsf_cons, nright, h.2 n]
    cases hf : (decide (1 ≤ n) && decide (n ≤ (es.length : Int)) && es.getD (n - 1).toNat false)
    · rw [rs_in_no (show fitsM (.back n) es = false from hf), rsf_no]; rfl
    · rw [rs_in (show fitsM (.back n) es = true from hf) rfl, rsf_cons, rs_out _ rfl]
      exact rok_refl h
  | .empty, es, o, c, h => rok_refl h
  | .one _, es, o, c, h => rok_refl h
  | .start, es, o, c, h => rok_refl h
  | .fin, es, o, c, h => rok_refl h
theorem evss_right : ∀ (l : List Nd) (es : List Bool) (o : Int) (c : List Int), RR es o c → ROk es (rsf (.ok es) (evss l)) (nrights l o c)
  | [], es, o, c, h => rok_refl h
  | d :: ds, es, o, c, h => by
    rw [evss, rsf_append, nrights]
    have ih := evs_right d es o c h
    cases hr : nright d o c with
    | none =>
      rw [hr] at ih
      rw [show rsf (.ok es) (evs d) = .no from ih, rsf_no]
      rfl
    | some q =>
      rw [hr] at ih
      obtain ⟨es', h1, h2, h3⟩ := ih
      rw [h1]
      have ih2 := evss_right ds es' q.1 q.2 h2
      show ROk es _ (nrights ds q.1 q.2)
      cases hr2 : nrights ds q.1 q.2 with
      | none => rw [hr2] at ih2; exact ih2
      | some q2 =>
        rw [hr2] at ih2
        obtain ⟨es2, g1, g2, g3⟩ := ih2
        exact ⟨es2, g1, g2, Nat.le_trans h3 g3⟩
end
/-- Is a tree right? -/
def nrightB (d : Nd) : Bool := (nright d 0 []).isSome
theorem rr_nil : RR [] 0 [] := ⟨rfl, fun n => by
  by_cases h1 : 1 ≤ n
  · have h2 : decide (n ≤ (([] : List Bool).length : Int)) = false := decide_eq_false (by simp; omega)
    rw [h2]; simp
  · rw [decide_eq_false h1]; rfl⟩
theorem right_ok {d : Nd} {es : List Bool} (h : rsf (.ok []) (evs d) = .ok es) : nrightB d = true := by
  have := evs_right d [] 0 [] rr_nil
  unfold nrightB
  cases hr : nright d 0 [] with
  | none => rw [hr, h] at this; cases this
  | some q => rfl
theorem right_no {d : Nd} (h : rsf (.ok []) (evs d) = .no) : nrightB d = false := by
  have := evs_right d [] 0 [] rr_nil
  unfold nrightB
  cases hr : nright d 0 [] with
  | none => rfl
  | some q => rw [hr, h] at this; obtain ⟨_, h1, _⟩ := this; cases h1
theorem right_never_bad {d : Nd} : rsf (.ok []) (evs d) ≠ .bad := by
  have := evs_right d [] 0 [] rr_nil
  intro h
  cases hr : nright d 0 [] with
  | none => rw [hr, h] at this; cases this
  | some q => rw [hr, h] at this; obtain ⟨_, h1, _⟩ := this; cases h1
/-- Where a group ends it has begun. -/
theorem right_ends {root d : Nd} {pre : List (Nd × Bool)} {es : List Bool} (hs : ∃ suf, pre ++ (d, false) :: suf = evs root) (hp : rsf (.ok []) pre = .ok es) (hg : ngrp d = true) : 1 ≤ nnum d ∧ nnum d ≤ (es.length : Int) := by
  obtain ⟨suf, hs⟩ := hs
  by_cases h : 1 ≤ nnum d ∧ nnum d ≤ (es.length : Int)
  · exact h
  · exfalso
    refine right_never_bad (d := root) ?_
    rw [← hs, rsf_append, hp, rsf_cons]
    have : rs (.ok es) (d, false) = .bad := by simp only [rs, hg]; simp [h]
    rw [this, rsf_bad]
end Go.Proofs.Ytaekjcbgnlldoaa
