/- Plain mathematics of bracket expressions: the examples; two bytes in brackets. No program is named here. -/
import Derived.Test.YtehikndlcepkgaaDoorBrVal
namespace Go.Proofs.YtehikndlcepkgaaDoor

/-- A byte that no bracketed item begins with is itself. -/
theorem itm_plain (s : List UInt8) (k : Nat) (hk : k < s.length) (h : byt s k ≠ 91) : itm s k = ⟨oSpan (byt s k) (byt s k), true, k + 1, 0, 0⟩ := by
  unfold itm
  rw [if_neg (by omega), if_neg (by unfold opens; simp [h])]
theorem elm_plain (s : List UInt8) (k : Nat) (a : Itm) (h : itm s k = a) (h0 : a.err = 0) (hn : ¬ (a.next + 1 < s.length ∧ byt s a.next = 45 ∧ byt s (a.next + 1) ≠ 93)) : elm s k = .ok (a.set, a.next) := by
  unfold elm
  simp only [h]
  rw [if_neg (by rw [h0]; simp), if_neg hn]
/-- The document's first example. -/
theorem prs_ex1 : prs [94, 97, 45, 93] 0 = (~~~(oz ||| oSpan 97 97 ||| oSpan 45 45), 4, 0) := by
  have h1 : elm [94, 97, 45, 93] 1 = .ok (oSpan 97 97, 2) := elm_plain _ _ _ (itm_plain _ 1 (by decide) (by decide)) rfl (by decide)
  have h2 : elm [94, 97, 45, 93] 2 = .ok (oSpan 45 45, 3) := elm_plain _ _ _ (itm_plain _ 2 (by decide) (by decide)) rfl (by decide)
  have h3 : rst [94, 97, 45, 93] true 1 oz = .ok (oz ||| oSpan 97 97 ||| oSpan 45 45, 4) := by
    rw [rst_ok _ _ _ _ _ _ (by decide) h1, rst_ok _ _ _ _ _ _ (by decide) h2, rst, if_pos (by decide)]
  exact prs_ok [94, 97, 45, 93] 0 (by decide) _ 4 h3
theorem fnd_none_step (s : List UInt8) (o e : Nat) (h1 : e + 1 < s.length) (h : ¬ (byt s e = o ∧ byt s (e + 1) = 93)) : fnd s o e = fnd s o (e + 1) := by
  rw [fnd, if_pos h1, if_neg h]
theorem fnd_here (s : List UInt8) (o e : Nat) (h1 : e + 1 < s.length) (h : byt s e = o ∧ byt s (e + 1) = 93) : fnd s o e = some e := by
  rw [fnd, if_pos h1, if_pos h]
/-- The document's second example. -/
theorem prs_ex2 : prs [91, 58, 100, 105, 103, 105, 116, 58, 93, 45, 122, 93] 0 = (oz, 0, 1) := by
  have hf : fnd [91, 58, 100, 105, 103, 105, 116, 58, 93, 45, 122, 93] 58 2 = some 7 := by
    rw [fnd_none_step _ _ 2 (by decide) (by decide), fnd_none_step _ _ 3 (by decide) (by decide), fnd_none_step _ _ 4 (by decide) (by decide), fnd_none_step _ _ 5 (by decide) (by decide), fnd_none_step _ _ 6 (by decide) (by decide), fnd_here _ _ 7 (by decide) (by decide)]
  have hi : itm [91, 58, 100, 105, 103, 105, 116, 58, 93, 45, 122, 93] 0 = ⟨cDigit, false, 9, 0, 0⟩ := by
    unfold itm
    rw [if_neg (by decide), if_pos (by decide), show from1 [91, 58, 100, 105, 103, 105, 116, 58, 93, 45, 122, 93] 0 = 2 by decide, show byt [91, 58, 100, 105, 103, 105, 116, 58, 93, 45, 122, 93] (0 + 1) = 58 by decide, hf]
    rfl
  have hj : itm [91, 58, 100, 105, 103, 105, 116, 58, 93, 45, 122, 93] 10 = _ := itm_plain _ 10 (by decide) (by decide)
  have he : elm [91, 58, 100, 105, 103, 105, 116, 58, 93, 45, 122, 93] 0 = .error (1, 0) := by
    unfold elm
    simp only [hi]
    rw [if_neg (by decide), if_pos (by decide), hj]
    rfl
  exact prs_err _ 0 (by decide) 1 0 (rst_err _ _ _ _ _ (by decide) he)
end Go.Proofs.YtehikndlcepkgaaDoor
