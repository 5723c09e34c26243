/- Plain mathematics of trees: what a regex is made of; the document's node as one. No program is named here. -/
import Derived.Test.YtaekjcbgnlldoaaTrMath
namespace Go.Proofs.Ytaekjcbgnlldoaa

/-- What a regex is made of. -/
inductive Nd where
  | empty
  | one (s : OSet)
  | cat (l : List Nd)
  | alt (l : List Nd)
  | rep (d : Nd) (mn mx : Int)
  | group (num : Int) (d : Nd)
  | back (num : Int)
  | start
  | fin
instance : Inhabited Nd := ⟨.empty⟩
/-- Its parts. -/
def nkids : Nd → List Nd
  | .cat l => l
  | .alt l => l
  | .rep d _ _ => [d]
  | .group _ d => [d]
  | _ => []
mutual
/-- A node of the document as what it is. -/
def canon : Tr → Nd
  | .mk k s mn mx num ps =>
    if k = 1 then .one s else if k = 2 then .cat (canons ps) else if k = 3 then .alt (canons ps)
    else if k = 4 then .rep (canon0 ps) mn mx else if k = 5 then .group num (canon0 ps)
    else if k = 6 then .back num else if k = 7 then .start else if k = 8 then .fin else .empty
def canons : List Tr → List Nd
  | [] => []
  | t :: ts => canon t :: canons ts
def canon0 : List Tr → Nd
  | [] => .empty
  | t :: _ => canon t
end
mutual
/-- How many nodes. -/
def nsize : Nd → Nat
  | .cat l => 1 + nsizes l
  | .alt l => 1 + nsizes l
  | .rep d _ _ => 1 + nsize d
  | .group _ d => 1 + nsize d
  | _ => 1
def nsizes : List Nd → Nat
  | [] => 0
  | d :: ds => nsize d + nsizes ds
end
mutual
/-- How many groups are in one another. -/
def ndeep : Nd → Nat
  | .cat l => ndeeps l
  | .alt l => ndeeps l
  | .rep d _ _ => ndeep d
  | .group _ d => ndeep d + 1
  | _ => 0
def ndeeps : List Nd → Nat
  | [] => 0
  | d :: ds => max (ndeep d) (ndeeps ds)
end
mutual
/-- How many groups. -/
def ngroups : Nd → Nat
  | .cat l => ngroupss l
  | .alt l => ngroupss l
  | .rep d _ _ => ngroups d
  | .group _ d => ngroups d + 1
  | _ => 0
def ngroupss : List Nd → Nat
  | [] => 0
  | d :: ds => ngroups d + ngroupss ds
end
mutual
/-- Has it a Back? -/
def nbacks : Nd → Bool
  | .cat l => nbackss l
  | .alt l => nbackss l
  | .rep d _ _ => nbacks d
  | .group _ d => nbacks d
  | .back _ => true
  | _ => false
def nbackss : List Nd → Bool
  | [] => false
  | d :: ds => nbacks d || nbackss ds
end
mutual
/-- Are two the same? -/
def nsame : Nd → Nd → Bool
  | .empty, .empty => true
  | .one s, .one t => decide (s = t)
  | .cat l, .cat m => nsames l m
  | .alt l, .alt m => nsames l m
  | .rep d a b, .rep e a' b' => decide (a = a') && decide (b = b') && nsame d e
  | .group n d, .group m e => decide (n = m) && nsame d e
  | .back n, .back m => decide (n = m)
  | .start, .start => true
  | .fin, .fin => true
  | _, _ => false
def nsames : List Nd → List Nd → Bool
  | [], [] => true
  | d :: ds, e :: es => nsame d e && nsames ds es
  | _, _ => false
end
/-- May a node stand in a Cat, in an Alt, in a Rep? -/
def inCat : Nd → Bool
  | .empty => false
  | .cat _ => false
  | .alt _ => false
  | _ => true
def inAlt : Nd → Bool
  | .alt _ => false
  | _ => true
def inRep : Nd → Bool
  | .empty => false
  | .start => false
  | .fin => false
  | .cat _ => false
  | .alt _ => false
  | _ => true
/-- The bounds of a Rep. -/
def okRep (mn mx : Int) : Bool := decide (0 ≤ mn) && decide (mn ≤ 255) && (decide (mx = -1) || (decide (mn ≤ mx) && decide (mx ≤ 255)))
mutual
/-- Is a node right, when so many groups were opened, and these were closed? What was opened and closed then. -/
def nright : Nd → Int → List Int → Option (Int × List Int)
  | .cat l, o, c => if decide (2 ≤ l.length) && l.all inCat then nrights l o c else none
  | .alt l, o, c => if decide (2 ≤ l.length) && l.all inAlt then nrights l o c else none
  | .rep d mn mx, o, c => if okRep mn mx && inRep d then nright d o c else none
  | .group n d, o, c => if n = o + 1 then (nright d (o + 1) c).map fun r => (r.1, r.2 ++ [n]) else none
  | .back n, o, c => if c.contains n then some (o, c) else none
  | _, o, c => some (o, c)
def nrights : List Nd → Int → List Int → Option (Int × List Int)
  | [], o, c => some (o, c)
  | d :: ds, o, c => match nright d o c with
    | none => none
    | some r => nrights ds r.1 r.2
end

theorem canons_map (ps : List Tr) : canons ps = ps.map canon := by
  induction ps with
  | nil => rfl
  | cons t ts ih => rw [canons, ih]; rfl
theorem canon0_of (ps : List Tr) : canon0 ps = canon (ps.headD tz) := by
  cases ps with
  | nil => rfl
  | cons t ts => rfl
/-- The parts of the one are the parts of the other. -/
theorem canon_kids (t : Tr) : nkids (canon t) = (tkids t).map canon := by
  obtain ⟨k, s, mn, mx, num, ps⟩ := t
  by_cases h1 : k = 1
  · subst h1; rfl
  by_cases h2 : k = 2
  · subst h2; exact canons_map ps
  by_cases h3 : k = 3
  · subst h3; exact canons_map ps
  by_cases h4 : k = 4
  · subst h4; exact congrArg (fun x => [x]) (canon0_of ps)
  by_cases h5 : k = 5
  · subst h5; exact congrArg (fun x => [x]) (canon0_of ps)
  have hk : tkids (.mk k s mn mx num ps) = [] := by
    unfold tkids
    rw [if_neg (show ¬ ((Tr.mk k s mn mx num ps).kind = 2 ∨ (Tr.mk k s mn mx num ps).kind = 3) from fun h => h.elim h2 h3), if_neg (show ¬ ((Tr.mk k s mn mx num ps).kind = 4 ∨ (Tr.mk k s mn mx num ps).kind = 5) from fun h => h.elim h4 h5)]
  rw [hk]
  unfold canon
  rw [if_neg h1, if_neg h2, if_neg h3, if_neg h4, if_neg h5]
  by_cases h6 : k = 6
  · rw [if_pos h6]; rfl
  rw [if_neg h6]
  by_cases h7 : k = 7
  · rw [if_pos h7]; rfl
  rw [if_neg h7]
  by_cases h8 : k = 8
  · rw [if_pos h8]; rfl
  rw [if_neg h8]
  rfl
theorem nsize_kids (d : Nd) : nsize d = 1 + nsizes (nkids d) := by cases d <;> simp [nsize, nkids, nsizes]
theorem nsizes_append (a b : List Nd) : nsizes (a ++ b) = nsizes a + nsizes b := by
  induction a with
  | nil => simp [nsizes]
  | cons t ts ih => rw [List.cons_append, nsizes, nsizes, ih]; omega
theorem nsizes_take (ps : List Nd) (i : Nat) (h : i < ps.length) : nsizes (ps.take (i + 1)) = nsizes (ps.take i) + nsize ps[i] := by
  rw [List.take_succ_eq_append_getElem h, nsizes_append]
  simp [nsizes]
theorem nsizes_le (ps : List Nd) (i : Nat) : nsizes (ps.take i) ≤ nsizes ps := by
  have h := nsizes_append (ps.take i) (ps.drop i)
  rw [List.take_append_drop] at h
  omega
/-- Is it a Group, a Back? -/
def ngrp : Nd → Bool
  | .group _ _ => true
  | _ => false
def nbck : Nd → Bool
  | .back _ => true
  | _ => false
theorem canon_grp (t : Tr) : ngrp (canon t) = (t.kind == 5) := by
  obtain ⟨k, s, mn, mx, num, ps⟩ := t
  show ngrp (canon _) = (k == 5)
  unfold canon
  repeat (split; · simp_all [ngrp])
  simp_all [ngrp]
theorem canon_bck (t : Tr) : nbck (canon t) = (t.kind == 6) := by
  obtain ⟨k, s, mn, mx, num, ps⟩ := t
  show nbck (canon _) = (k == 6)
  unfold canon
  repeat (split; · simp_all [nbck])
  simp_all [nbck]
theorem ngroups_kids (d : Nd) : ngroups d = ngroupss (nkids d) + (if ngrp d then 1 else 0) := by cases d <;> simp [ngroups, nkids, ngroupss, ngrp]
theorem ndeep_kids (d : Nd) : ndeep d = ndeeps (nkids d) + (if ngrp d then 1 else 0) := by cases d <;> simp [ndeep, nkids, ndeeps, ngrp]
theorem nbacks_kids (d : Nd) : nbacks d = (nbackss (nkids d) || nbck d) := by cases d <;> simp [nbacks, nkids, nbackss, nbck]
theorem ngroupss_append (a b : List Nd) : ngroupss (a ++ b) = ngroupss a + ngroupss b := by
  induction a with
  | nil => simp [ngroupss]
  | cons t ts ih => rw [List.cons_append, ngroupss, ngroupss, ih]; omega
theorem ngroupss_take (ps : List Nd) (i : Nat) (h : i < ps.length) : ngroupss (ps.take (i + 1)) = ngroupss (ps.take i) + ngroups ps[i] := by
  rw [List.take_succ_eq_append_getElem h, ngroupss_append]
  simp [ngroupss]
theorem ngroupss_le (ps : List Nd) (i : Nat) : ngroupss (ps.take i) ≤ ngroupss ps := by
  have h := ngroupss_append (ps.take i) (ps.drop i)
  rw [List.take_append_drop] at h
  omega
theorem ndeeps_append (a b : List Nd) : ndeeps (a ++ b) = max (ndeeps a) (ndeeps b) := by
  induction a with
  | nil => simp [ndeeps]
  | cons t ts ih => rw [List.cons_append, ndeeps, ndeeps, ih]; omega
theorem ndeeps_take (ps : List Nd) (i : Nat) (h : i < ps.length) : ndeeps (ps.take (i + 1)) = max (ndeeps (ps.take i)) (ndeep ps[i]) := by
  rw [List.take_succ_eq_append_getElem h, ndeeps_append]
  simp [ndeeps]
theorem ndeeps_le (ps : List Nd) (i : Nat) : ndeeps (ps.take i) ≤ ndeeps ps := by
  have h := ndeeps_append (ps.take i) (ps.drop i)
  rw [List.take_append_drop] at h
  omega
theorem nbackss_append (a b : List Nd) : nbackss (a ++ b) = (nbackss a || nbackss b) := by
  induction a with
  | nil => simp [nbackss]
  | cons t ts ih => rw [List.cons_append, nbackss, nbackss, ih, Bool.or_assoc]
theorem nbackss_take (ps : List Nd) (i : Nat) (h : i < ps.length) : nbackss (ps.take (i + 1)) = (nbackss (ps.take i) || nbacks ps[i]) := by
  rw [List.take_succ_eq_append_getElem h, nbackss_append]
  simp [nbackss]
theorem nbackss_yes (ps : List Nd) (i : Nat) (h : nbackss (ps.take i) = true) : nbackss ps = true := by
  have h2 := nbackss_append (ps.take i) (ps.drop i)
  rw [List.take_append_drop] at h2
  rw [h2, h]
  rfl
theorem nsizes_length (ps : List Nd) : ps.length ≤ nsizes ps := by
  induction ps with
  | nil => simp [nsizes]
  | cons t ts ih => have := nsize_kids t; rw [nsizes, List.length_cons]; omega
theorem canon_1 (t : Tr) (h : t.kind = 1) : canon t = .one t.set := by
  obtain ⟨k, s, mn, mx, num, ps⟩ := t
  obtain rfl : k = 1 := h
  rfl
theorem canon_2 (t : Tr) (h : t.kind = 2) : canon t = .cat ((tkids t).map canon) := by
  obtain ⟨k, s, mn, mx, num, ps⟩ := t
  obtain rfl : k = 2 := h
  exact congrArg Nd.cat (canons_map ps)
theorem canon_3 (t : Tr) (h : t.kind = 3) : canon t = .alt ((tkids t).map canon) := by
  obtain ⟨k, s, mn, mx, num, ps⟩ := t
  obtain rfl : k = 3 := h
  exact congrArg Nd.alt (canons_map ps)
theorem canon_4 (t : Tr) (h : t.kind = 4) : canon t = .rep (canon (tof t)) t.mn t.mx ∧ tkids t = [tof t] := by
  obtain ⟨k, s, mn, mx, num, ps⟩ := t
  obtain rfl : k = 4 := h
  exact ⟨congrArg (fun x => Nd.rep x mn mx) (canon0_of ps), rfl⟩
theorem canon_5 (t : Tr) (h : t.kind = 5) : canon t = .group t.num (canon (tof t)) ∧ tkids t = [tof t] := by
  obtain ⟨k, s, mn, mx, num, ps⟩ := t
  obtain rfl : k = 5 := h
  exact ⟨congrArg (Nd.group num) (canon0_of ps), rfl⟩
theorem canon_6 (t : Tr) (h : t.kind = 6) : canon t = .back t.num := by
  obtain ⟨k, s, mn, mx, num, ps⟩ := t
  obtain rfl : k = 6 := h
  rfl
theorem canon_7 (t : Tr) (h : t.kind = 7) : canon t = .start := by
  obtain ⟨k, s, mn, mx, num, ps⟩ := t
  obtain rfl : k = 7 := h
  rfl
theorem canon_8 (t : Tr) (h : t.kind = 8) : canon t = .fin := by
  obtain ⟨k, s, mn, mx, num, ps⟩ := t
  obtain rfl : k = 8 := h
  rfl
theorem canon_0 (t : Tr) (h1 : t.kind ≠ 1) (h2 : t.kind ≠ 2) (h3 : t.kind ≠ 3) (h4 : t.kind ≠ 4) (h5 : t.kind ≠ 5) (h6 : t.kind ≠ 6) (h7 : t.kind ≠ 7) (h8 : t.kind ≠ 8) : canon t = .empty := by
  obtain ⟨k, s, mn, mx, num, ps⟩ := t
  simp only [Tr.kind] at h1 h2 h3 h4 h5 h6 h7 h8
  unfold canon
  rw [if_neg h1, if_neg h2, if_neg h3, if_neg h4, if_neg h5, if_neg h6, if_neg h7, if_neg h8]
mutual
/-- There are no more nodes than twice what there is. -/
theorem nsize_tall : ∀ t : Tr, nsize (canon t) ≤ 2 * tall t
  | .mk k s mn mx num ps => by
    have h1 := nsizes_talls ps
    have h2 := nsize0_talls ps
    rw [tall]
    unfold canon
    repeat (split; · simp only [nsize]; omega)
    simp only [nsize]; omega
theorem nsizes_talls : ∀ ps : List Tr, nsizes (canons ps) ≤ 2 * talls ps
  | [] => by simp [canons, nsizes]
  | t :: ts => by
    have h1 := nsize_tall t
    have h2 := nsizes_talls ts
    rw [canons, nsizes, talls]
    omega
theorem nsize0_talls : ∀ ps : List Tr, nsize (canon0 ps) ≤ 2 * talls ps + 1
  | [] => by simp [canon0, nsize]
  | t :: ts => by
    have h1 := nsize_tall t
    rw [canon0, talls]
    omega
end
mutual
theorem ngroups_size : ∀ d : Nd, ngroups d ≤ nsize d
  | .empty => by simp [ngroups]
  | .one _ => by simp [ngroups]
  | .cat l => by have := ngroupss_size l; simp only [ngroups, nsize]; omega
  | .alt l => by have := ngroupss_size l; simp only [ngroups, nsize]; omega
  | .rep d _ _ => by have := ngroups_size d; simp only [ngroups, nsize]; omega
  | .group _ d => by have := ngroups_size d; simp only [ngroups, nsize]; omega
  | .back _ => by simp [ngroups]
  | .start => by simp [ngroups]
  | .fin => by simp [ngroups]
theorem ngroupss_size : ∀ l : List Nd, ngroupss l ≤ nsizes l
  | [] => by simp [ngroupss]
  | d :: ds => by have := ngroups_size d; have := ngroupss_size ds; simp only [ngroupss, nsizes]; omega
end
mutual
theorem ndeep_size : ∀ d : Nd, ndeep d ≤ nsize d
  | .empty => by simp [ndeep]
  | .one _ => by simp [ndeep]
  | .cat l => by have := ndeeps_size l; simp only [ndeep, nsize]; omega
  | .alt l => by have := ndeeps_size l; simp only [ndeep, nsize]; omega
  | .rep d _ _ => by have := ndeep_size d; simp only [ndeep, nsize]; omega
  | .group _ d => by have := ndeep_size d; simp only [ndeep, nsize]; omega
  | .back _ => by simp [ndeep]
  | .start => by simp [ndeep]
  | .fin => by simp [ndeep]
theorem ndeeps_size : ∀ l : List Nd, ndeeps l ≤ nsizes l
  | [] => by simp [ndeeps]
  | d :: ds => by have := ndeep_size d; have := ndeeps_size ds; simp only [ndeeps, nsizes]; omega
end
/-- Whether two are the same, a level at a time. -/
def nhead : Nd → Nd → Bool
  | .empty, .empty => true
  | .one s, .one t => decide (s = t)
  | .cat _, .cat _ => true
  | .alt _, .alt _ => true
  | .rep _ a b, .rep _ a' b' => decide (a = a') && decide (b = b')
  | .group n _, .group m _ => decide (n = m)
  | .back n, .back m => decide (n = m)
  | .start, .start => true
  | .fin, .fin => true
  | _, _ => false
theorem nsame_kids (d e : Nd) : nsame d e = (nhead d e && nsames (nkids d) (nkids e)) := by
  cases d <;> cases e <;> simp [nsame, nhead, nkids, nsames]
theorem nsames_len (l m : List Nd) (h : l.length ≠ m.length) : nsames l m = false := by
  induction l generalizing m with
  | nil =>
    cases m with
    | nil => simp at h
    | cons e es => rfl
  | cons d ds ih =>
    cases m with
    | nil => rfl
    | cons e es => rw [nsames, ih es (by simpa using h), Bool.and_false]
theorem nsames_take (l m : List Nd) (hl : l.length = m.length) (i : Nat) (h : i < l.length) (h2 : i < m.length) : nsames (l.take (i + 1)) (m.take (i + 1)) = (nsames (l.take i) (m.take i) && nsame l[i] m[i]) := by
  induction l generalizing m i with
  | nil => simp at h
  | cons d ds ih =>
    cases m with
    | nil => simp at h2
    | cons e es =>
      cases i with
      | zero => simp [nsames]
      | succ i =>
        rw [List.take_succ_cons, List.take_succ_cons, List.take_succ_cons, List.take_succ_cons, nsames, nsames, ih es (by simpa using hl) i (by simpa using h) (by simpa using h2), Bool.and_assoc]
        rfl
theorem nsames_no (l m : List Nd) (i : Nat) (h : i < l.length) (h2 : i < m.length) (hn : nsame l[i] m[i] = false) : nsames l m = false := by
  induction l generalizing m i with
  | nil => simp at h
  | cons d ds ih =>
    cases m with
    | nil => rfl
    | cons e es =>
      rw [nsames]
      cases i with
      | zero => rw [show nsame d e = false from hn]; rfl
      | succ i => rw [ih es i (by simpa using h) (by simpa using h2) hn, Bool.and_false]
end Go.Proofs.Ytaekjcbgnlldoaa
