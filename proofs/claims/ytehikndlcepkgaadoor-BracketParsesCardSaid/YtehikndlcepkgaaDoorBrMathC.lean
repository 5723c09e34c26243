/- Plain mathematics of bracket expressions: a search for two bytes; what a text begins with; spans. No program is named here. -/
import Derived.Test.YtehikndlcepkgaaDoorBrMathB
import Derived.Lib.IndexMore
import Derived.Lib.Strings
namespace Go.Proofs.YtehikndlcepkgaaDoor

theorem byt_drop (s : List UInt8) (k : Nat) (h : k < s.length) : s.drop k = s[k] :: s.drop (k + 1) ∧ byt s k = s[k].toNat := by
  refine ⟨List.drop_eq_getElem_cons h, ?_⟩
  unfold byt
  rw [List.getD_eq_getElem?_getD, List.getElem?_eq_getElem h]
  rfl
theorem u8_eq (a b : UInt8) : (a == b) = decide (a.toNat = b.toNat) := by
  by_cases h : a = b
  · subst h; simp
  · have h2 : a.toNat ≠ b.toNat := fun e => h (UInt8.toNat_inj.1 e)
    simp [h, h2]
/-- Where two bytes stand first behind a place. -/
theorem idx_fnd (s : List UInt8) (k : UInt8) (e : Nat) (he : e ≤ s.length) : Lib.index (s.drop e) [k, 93] = match fnd s k.toNat e with
    | some x => (x : Int) - (e : Int)
    | none => -1 := by
  obtain ⟨n, hn⟩ : ∃ n, n = s.length - e := ⟨_, rfl⟩
  induction n generalizing e with
  | zero =>
    have : e = s.length := by omega
    subst this
    rw [fnd, if_neg (by omega), List.drop_length]
    rfl
  | succ n ih =>
    have hlt : e < s.length := by omega
    obtain ⟨h1, h2⟩ := byt_drop s e hlt
    have ih := ih (e + 1) (by omega) (by omega)
    rw [h1, fnd]
    unfold Lib.index
    rw [ih]
    by_cases hl : e + 1 < s.length
    · obtain ⟨h3, h4⟩ := byt_drop s (e + 1) hl
      rw [if_pos hl, h3, h2, h4]
      have hp : [k, 93].isPrefixOf (s[e] :: s[e + 1] :: s.drop (e + 1 + 1)) = (decide (s[e].toNat = k.toNat) && decide (s[e + 1].toNat = 93)) := by
        simp only [List.isPrefixOf, Bool.and_true]
        rw [u8_eq, u8_eq]
        congr 1
        · exact decide_eq_decide.2 ⟨Eq.symm, Eq.symm⟩
        · exact decide_eq_decide.2 ⟨Eq.symm, Eq.symm⟩
      rw [hp]
      by_cases hc : s[e].toNat = k.toNat ∧ s[e + 1].toNat = 93
      · rw [if_pos hc, if_pos (by simp [hc])]
        simp
      · rw [if_neg hc, if_neg (by simpa using hc)]
        cases hf : fnd s k.toNat (e + 1) with
        | none => simp
        | some x =>
          have := fnd_ge _ _ _ _ hf
          simp only
          rw [if_neg (by simp; omega)]
          omega
    · rw [if_neg hl]
      have h3 : s.drop (e + 1) = [] := List.drop_eq_nil_of_le (by omega)
      rw [h3]
      have h4 : fnd s k.toNat (e + 1) = none := by rw [fnd, if_neg (by omega)]
      rw [h4]
      have hp : [k, 93].isPrefixOf [s[e]] = false := by simp [List.isPrefixOf]
      rw [hp]
      simp
theorem pre_one (s : List UInt8) (k : Nat) (o : UInt8) : Lib.hasPrefix (s.drop k) [o] = (decide (k < s.length) && decide (byt s k = o.toNat)) := by
  unfold Lib.hasPrefix
  by_cases hl : k < s.length
  · obtain ⟨h3, h4⟩ := byt_drop s k hl
    rw [h3, h4]
    simp only [List.isPrefixOf, Bool.and_true, hl, decide_true, Bool.true_and]
    rw [u8_eq]
    exact decide_eq_decide.2 ⟨Eq.symm, Eq.symm⟩
  · rw [List.drop_eq_nil_of_le (by omega)]
    simp [hl]
theorem pre_two (s : List UInt8) (k : Nat) (a o : UInt8) : Lib.hasPrefix (s.drop k) [a, o] = (decide (k + 1 < s.length) && decide (byt s k = a.toNat) && decide (byt s (k + 1) = o.toNat)) := by
  unfold Lib.hasPrefix
  by_cases hl : k < s.length
  · obtain ⟨h3, h4⟩ := byt_drop s k hl
    have := pre_one s (k + 1) o
    unfold Lib.hasPrefix at this
    rw [h3, h4]
    show (a == s[k] && [o].isPrefixOf (s.drop (k + 1))) = _
    rw [this, u8_eq]
    rw [show decide (a.toNat = s[k].toNat) = decide (s[k].toNat = a.toNat) from decide_eq_decide.2 ⟨Eq.symm, Eq.symm⟩]
    cases decide (k + 1 < s.length) <;> cases decide (s[k].toNat = a.toNat) <;> rfl
  · rw [List.drop_eq_nil_of_le (by omega)]
    simp [show ¬ (k + 1 < s.length) by omega]
/-- A span without bytes; one with bytes. -/
theorem span_none (a b : Nat) (h : b < a) : oSpan a b = oz := by
  unfold oSpan
  rw [show ((b : Int) - (a : Int) + 1).toNat = 0 by omega]
  rfl
theorem span_some (a b : Nat) (hb : b < 256) (h : a ≤ b) : oSpan a b ≠ oz := by
  intro hz
  have h1 : ohas (oSpan a b) a = true := by
    unfold ohas oSpan
    rw [Int.toNat_natCast, ospan_get _ _ _ (by omega)]
    simp; omega
  rw [hz] at h1
  simp [ohas, oz] at h1
end Go.Proofs.YtehikndlcepkgaaDoor
