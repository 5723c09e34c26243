/- Plain mathematics of layer 7: trees without a Rep; a byte so many times. No program is named here. -/
import Derived.Test.YtjjhkagpoicimaaCoMg
namespace Go.Proofs.Ytjjhkagpoicimaa
set_option linter.unusedVariables false

mutual
/-- No Rep is in it. -/
def noRep : Nd → Bool
  | .cat l => noReps l
  | .alt l => noReps l
  | .group _ d => noRep d
  | .rep _ _ _ => false
  | _ => true
def noReps : List Nd → Bool
  | [] => true
  | d :: ds => noRep d && noReps ds
end
mutual
theorem norep_clp : ∀ d : Nd, noRep d = true → clp d = 0
  | .empty, _ => by simp [clp]
  | .one _, _ => by simp [clp]
  | .cat l, h => by rw [noRep] at h; rw [clp]; exact noreps_clp l h
  | .alt l, h => by rw [noRep] at h; rw [clp]; exact noreps_clp l h
  | .rep _ _ _, h => by simp [noRep] at h
  | .group _ d, h => by rw [noRep] at h; rw [clp]; exact norep_clp d h
  | .back _, _ => by simp [clp]
  | .start, _ => by simp [clp]
  | .fin, _ => by simp [clp]
theorem noreps_clp : ∀ l : List Nd, noReps l = true → clps l = 0
  | [], _ => by simp [clps]
  | d :: ds, h => by rw [noReps, Bool.and_eq_true] at h; rw [clps, norep_clp d h.1, noreps_clp ds h.2]
end
theorem long_csz (s : OSet) (a b : Nat) : csz (.rep (.rep (.one s) a a) b b) = a * b ∧ clp (.rep (.rep (.one s) a a) b b) = 0 := by
  have ha : ((a : Int) = -1) = False := by simp
  have hb : ((b : Int) = -1) = False := by simp
  simp [csz, clp, ha, hb, Nat.mul_comm]
end Go.Proofs.Ytjjhkagpoicimaa
