/- A tree gone through from the front: each node as it begins and as it ends; what is still to come of a stack of open nodes. No program is named here. -/
import Derived.Test.YtaekjcbgnlldoaaNdMath
namespace Go.Proofs.Ytaekjcbgnlldoaa

mutual
/-- What comes of a node, and of nodes. -/
def evs : Nd → List (Nd × Bool)
  | .cat l => (.cat l, true) :: (evss l ++ [(.cat l, false)])
  | .alt l => (.alt l, true) :: (evss l ++ [(.alt l, false)])
  | .rep d a b => (.rep d a b, true) :: (evs d ++ [(.rep d a b, false)])
  | .group n d => (.group n d, true) :: (evs d ++ [(.group n d, false)])
  | .empty => [(.empty, true), (.empty, false)]
  | .one s => [(.one s, true), (.one s, false)]
  | .back n => [(.back n, true), (.back n, false)]
  | .start => [(.start, true), (.start, false)]
  | .fin => [(.fin, true), (.fin, false)]
def evss : List Nd → List (Nd × Bool)
  | [] => []
  | d :: ds => evs d ++ evss ds
end
theorem evs_kids (d : Nd) : evs d = (d, true) :: (evss (nkids d) ++ [(d, false)]) := by cases d <;> simp [evs, nkids, evss]
mutual
theorem evs_len : ∀ d : Nd, (evs d).length = 2 * nsize d
  | .cat l => by have := evss_len l; simp [evs, nsize, this]; omega
  | .alt l => by have := evss_len l; simp [evs, nsize, this]; omega
  | .rep d _ _ => by have := evs_len d; simp [evs, nsize, this]; omega
  | .group _ d => by have := evs_len d; simp [evs, nsize, this]; omega
  | .empty => rfl
  | .one _ => rfl
  | .back _ => rfl
  | .start => rfl
  | .fin => rfl
theorem evss_len : ∀ l : List Nd, (evss l).length = 2 * nsizes l
  | [] => rfl
  | d :: ds => by have := evs_len d; have := evss_len ds; simp [evss, nsizes, *]; omega
end
/-- What is still to come of open nodes, the innermost last. -/
def rem : List (Nd × List Nd) → List (Nd × Bool)
  | [] => []
  | x :: s => rem s ++ (evss x.2 ++ [(x.1, false)])
theorem rem_snoc (s : List (Nd × List Nd)) (d : Nd) (r : List Nd) : rem (s ++ [(d, r)]) = evss r ++ ((d, false) :: rem s) := by
  induction s with
  | nil => simp [rem]
  | cons x s ih => rw [List.cons_append, rem, ih, rem]; simp
theorem rem_len (s : List (Nd × List Nd)) : s.length ≤ (rem s).length := by
  induction s with
  | nil => simp
  | cons x s ih => rw [rem]; simp; omega
end Go.Proofs.Ytaekjcbgnlldoaa
