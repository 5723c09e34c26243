/- Whether a node may stand where it does. No program is named here. -/
import Derived.Test.YtaekjcbgnlldoaaNdMath
namespace Go.Proofs.Ytaekjcbgnlldoaa

/-- May a node stand where it does, behind groups that began, and perhaps ended? -/
def fitsM (d : Nd) (es : List Bool) : Bool := match d with
  | .cat l => decide (2 ≤ l.length) && l.all inCat
  | .alt l => decide (2 ≤ l.length) && l.all inAlt
  | .rep d mn mx => okRep mn mx && inRep d
  | .group n _ => decide (n = (es.length : Int) + 1)
  | .back n => decide (1 ≤ n) && decide (n ≤ es.length) && es.getD (n - 1).toNat false
  | _ => true
theorem all_any (p : Nd → Bool) (l : List Nd) : (!(l.any fun d => !p d)) = l.all p := by
  induction l with
  | nil => rfl
  | cons d ds ih => rw [List.any_cons, List.all_cons, ← ih]; cases p d <;> simp
end Go.Proofs.Ytaekjcbgnlldoaa
