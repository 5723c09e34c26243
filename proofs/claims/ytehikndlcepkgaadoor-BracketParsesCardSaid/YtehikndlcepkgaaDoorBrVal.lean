/- The answer of a bracket expression as a value. -/
import Derived.Test.YtehikndlcepkgaaDoorBrMathC
namespace Go.Proofs.YtehikndlcepkgaaDoor
/-- What Parse answers: the program's and the document's. -/
def prV (r : OSet × Int × Nat) : Value := .tuple #[.agg #[.int .u64 (ow r.1 0), .int .u64 (ow r.1 1), .int .u64 (ow r.1 2), .int .u64 (ow r.1 3)], .int .i64 r.2.1, .int .i64 (r.2.2 : Int)]
theorem ret_pr {a b : OSet × Int × Nat} (h : a = b) : Ending.returned (prV a) = .returned (prV b) := by rw [h]
/-- Does a ^ stand at a place? -/
def car (s : List UInt8) (k : Nat) : Bool := decide (k < s.length) && decide (byt s k = 94)
theorem prs_out (s : List UInt8) (k : Int) (h : k < 0 ∨ (s.length : Int) < k) : prs s k = (oz, 0, 1) := by
  unfold prs
  rw [if_pos h]
theorem prs_ok (s : List UInt8) (n : Nat) (h : n ≤ s.length) (t : OSet) (j : Nat) (hr : rst s true (if car s n then n + 1 else n) oz = .ok (t, j)) : prs s (n : Int) = (if car s n then ~~~t else t, (j : Int), 0) := by
  unfold prs
  rw [if_neg (by omega)]
  simp only [Int.toNat_natCast]
  unfold car at hr ⊢
  rw [hr]
theorem prs_err (s : List UInt8) (n : Nat) (h : n ≤ s.length) (e p : Nat) (hr : rst s true (if car s n then n + 1 else n) oz = .error (e, p)) : prs s (n : Int) = (oz, (p : Int), e) := by
  unfold prs
  rw [if_neg (by omega)]
  simp only [Int.toNat_natCast]
  unfold car at hr
  rw [hr]
theorem elm_err (s : List UInt8) (k e p : Nat) (h : elm s k = .error (e, p)) : e ≠ 0 := by
  unfold elm at h
  simp only at h
  split at h
  · rename_i h1
    injection h with h
    injection h with h2 _
    rw [← h2]
    exact h1
  · split at h
    · split at h
      · rename_i h1
        injection h with h
        injection h with h2 _
        rw [← h2]
        exact h1
      · split at h
        · cases h
        · injection h with h
          injection h with h2 _
          omega
    · cases h
theorem rst_end (s : List UInt8) (fl : Bool) (k : Nat) (out : OSet) (e p : Nat) (h : rst s fl k out = .error (e, p)) : e ≠ 0 := by
  fun_induction rst s fl k out with
  | case1 => cases h
  | case2 _ _ _ _ x hx =>
    injection h with h
    subst h
    exact elm_err _ _ _ _ hx
  | case3 _ _ _ _ _ _ _ ih => exact ih h
end Go.Proofs.YtehikndlcepkgaaDoor
