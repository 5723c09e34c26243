/- Plain mathematics of bracket expressions: a set of one byte, its least byte. No program is named here. -/
import Derived.Test.YtehikndlcepkgaaDoorBrMath
namespace Go.Proofs.YtehikndlcepkgaaDoor

/-- A set of one byte: its span. -/
theorem one_has (b k : Nat) (hb : b < 256) : ohas (oSpan b b) k = (decide (b ≤ k) && decide (k < b + 1)) := by
  unfold ohas oSpan
  rw [Int.toNat_natCast, show ((b : Int) - (b : Int) + 1).toNat = 1 by omega, ospan_get _ _ _ (by omega)]
theorem lst_one (b : Nat) (hb : b < 256) : sps (oSpan b b) ≠ [] ∧ lst (oSpan b b) = b := by
  have h1 : ohas (oSpan b b) b = true := by rw [one_has b b hb]; simp
  cases hs : sps (oSpan b b) with
  | nil =>
    have h := sps_nil _ hs
    rw [h] at h1
    simp [ohas, oz] at h1
  | cons p l =>
    refine ⟨by simp, ?_⟩
    obtain ⟨_, h2, h3⟩ := sps_first _ p l hs
    unfold lst
    rw [hs]
    rw [one_has b p.1 hb] at h2
    simp only [Bool.and_eq_true, decide_eq_true_eq] at h2
    simp only
    omega
theorem byt_lt (s : List UInt8) (k : Nat) : byt s k < 256 := (s.getD k 0).toNat_lt
/-- What may begin or end a range is one byte. -/
theorem itm_may (s : List UInt8) (k : Nat) (h : (itm s k).may = true) : ∃ b : Nat, b < 256 ∧ (itm s k).set = oSpan b b := by
  unfold itm at h ⊢
  split at h
  · simp at h
  · rename_i hk
    rw [if_neg hk]
    split at h
    · rename_i ho
      rw [if_pos ho]
      split at h
      · rename_i e he
        unfold boxed at h ⊢
        split at h
        · split at h <;> simp at h
        · rename_i h1
          rw [if_neg h1]
          split at h
          · rename_i h2
            rw [if_pos h2]
            exact ⟨_, byt_lt s (k + 2), rfl⟩
          · simp at h
      · simp at h
    · rename_i ho
      rw [if_neg ho]
      exact ⟨_, byt_lt s k, rfl⟩

theorem rst_ok (s : List UInt8) (first : Bool) (k : Nat) (out t : OSet) (j : Nat) (hn : ¬ (first = false ∧ k < s.length ∧ byt s k = 93)) (h : elm s k = .ok (t, j)) : rst s first k out = rst s false j (out ||| t) := by
  rw [rst, if_neg hn]
  split
  · rename_i e h2
    rw [h] at h2
    cases h2
  · rename_i t' j' h2
    rw [h] at h2
    cases h2
    rfl
theorem rst_err (s : List UInt8) (first : Bool) (k : Nat) (out : OSet) (e : Nat × Nat) (hn : ¬ (first = false ∧ k < s.length ∧ byt s k = 93)) (h : elm s k = .error e) : rst s first k out = .error e := by
  rw [rst, if_neg hn]
  split
  · rename_i e2 h2
    rw [h] at h2
    cases h2
    rfl
  · rename_i t' j' h2
    rw [h] at h2
    cases h2
end Go.Proofs.YtehikndlcepkgaaDoor
