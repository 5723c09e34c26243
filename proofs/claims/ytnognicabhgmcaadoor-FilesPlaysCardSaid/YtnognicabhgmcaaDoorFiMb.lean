/- Plain mathematics of layer 17: a text's lines as strings.Split gives them. No program is named here. -/
import Derived.Test.YtnognicabhgmcaaDoorFiMa
import Derived.Lib.SplitLaws
namespace Go.Proofs.YtnognicabhgmcaaDoor
open Go

/-- A text's lines, from ahead. -/
def cutA : List UInt8 → List UInt8 × List (List UInt8)
  | [] => ([], [])
  | b :: l => if b = 10 then ([], (cutA l).1 :: (cutA l).2) else (b :: (cutA l).1, (cutA l).2)
theorem cutA_ten (l : List UInt8) : cutA (10 :: l) = ([], (cutA l).1 :: (cutA l).2) := by rw [cutA, if_pos rfl]
theorem cutA_not {b : UInt8} (h : b ≠ 10) (l : List UInt8) : cutA (b :: l) = (b :: (cutA l).1, (cutA l).2) := by rw [cutA, if_neg h]
theorem cutRun_cutA : ∀ (L cur : List UInt8) (out : List (List UInt8)), cutRun L cur out = out ++ (cur ++ (cutA L).1) :: (cutA L).2
  | [], cur, out => by simp [cutRun, cutA]
  | b :: l, cur, out => by
    unfold cutRun
    by_cases h : b = 10
    · subst h
      rw [if_pos rfl, cutRun_cutA l, cutA_ten]; simp
    · rw [if_neg h, cutRun_cutA l, cutA_not h]; simp
theorem fCut_cutA (L : List UInt8) : fCut L = (cutA L).1 :: (cutA L).2 := by unfold fCut; rw [cutRun_cutA]; simp
theorem cutA_len : ∀ (L : List UInt8), (cutA L).2.length = L.count 10
  | [] => rfl
  | b :: l => by
    by_cases h : b = 10
    · subst h
      rw [cutA_ten, List.length_cons, cutA_len l, List.count_cons_self]
    · rw [cutA_not h, List.count_cons_of_ne (by simpa using h)]
      exact cutA_len l
theorem index10_no : ∀ {l : List UInt8}, Lib.index l [10] = -1 → cutA l = (l, [])
  | [], _ => rfl
  | b :: l, h => by
    have hix : Lib.index (b :: l) [10] = if ([10] : List UInt8).isPrefixOf (b :: l) then 0 else if Lib.index l [10] == -1 then -1 else Lib.index l [10] + 1 := by rw [Lib.index]
    have hge := Lib.index_ge l [10]
    by_cases e : b = 10
    · subst e
      rw [hix] at h
      rw [if_pos (by simp [List.isPrefixOf])] at h
      omega
    · have hp : ([10] : List UInt8).isPrefixOf (b :: l) = false := by simp [List.isPrefixOf, Ne.symm e]
      rw [hix, hp, if_neg (by simp)] at h
      have h2 : Lib.index l [10] = -1 := by
        split at h
        · rename_i k; exact beq_iff_eq.1 k
        · omega
      rw [cutA_not e, index10_no h2]
theorem index10_at : ∀ {l : List UInt8} {i : Nat}, Lib.index l [10] = i → cutA l = (l.take i, (cutA (l.drop (i + 1))).1 :: (cutA (l.drop (i + 1))).2)
  | [], i, h => by simp [Lib.index] at h
  | b :: l, i, h => by
    have hix : Lib.index (b :: l) [10] = if ([10] : List UInt8).isPrefixOf (b :: l) then 0 else if Lib.index l [10] == -1 then -1 else Lib.index l [10] + 1 := by rw [Lib.index]
    have hge := Lib.index_ge l [10]
    by_cases e : b = 10
    · subst e
      rw [hix] at h
      simp [List.isPrefixOf] at h
      obtain rfl : i = 0 := by omega
      rw [cutA_ten]
      simp
    · have hp : ([10] : List UInt8).isPrefixOf (b :: l) = false := by simp [List.isPrefixOf, Ne.symm e]
      rw [hix, hp, if_neg (by simp)] at h
      split at h
      · omega
      rename_i k
      have k2 : Lib.index l [10] ≠ -1 := fun e => k (beq_iff_eq.2 e)
      obtain ⟨j, rfl⟩ : ∃ j, i = j + 1 := ⟨(Lib.index l [10]).toNat, by omega⟩
      rw [cutA_not e, index10_at (l := l) (i := j) (by omega)]
      simp
theorem splitK_cut : ∀ (k : Nat) (s : List UInt8), s.count 10 = k → Lib.splitK [10] 0 k s = fCut s
  | 0, s, h => by
    have h1 : (cutA s).2 = [] := List.length_eq_zero_iff.1 (by rw [cutA_len, h])
    rw [fCut_cutA, h1]
    rcases Lib.index_spec s [10] with ⟨h2, _⟩ | ⟨i, h2, _⟩
    · rw [index10_no h2]; rfl
    · rw [index10_at h2] at h1; cases h1
  | k + 1, s, h => by
    unfold Lib.splitK
    rcases Lib.index_spec s [10] with ⟨h2, _⟩ | ⟨i, h2, _⟩
    · have h1 := cutA_len s
      rw [index10_no h2, h] at h1
      simp at h1
    · have hi : (Lib.index s [10]).toNat = i := by omega
      have hn : ¬ (Lib.index s [10] == -1) = true := fun e => by have := beq_iff_eq.1 e; omega
      have h1 := cutA_len s
      rw [index10_at h2, h, List.length_cons, cutA_len] at h1
      rw [if_neg hn, hi, splitK_cut k _ (by show (s.drop (i + 1)).count 10 = k; omega), fCut_cutA s, index10_at h2, fCut_cutA]
      rfl
/-- What strings.Split gives is what the document's lines are. -/
theorem splitB_cut (s : ByteArray) : (Lib.splitB ⟨#[10]⟩ 0 (Lib.countB s ⟨#[10]⟩) s).map (·.data.toList) = fCut s.data.toList := by
  rw [Lib.splitB_data]
  exact splitK_cut _ _ (by rw [show Lib.countB s ⟨#[10]⟩ = Lib.count s.data.toList [10] from rfl, Lib.count_one])
end Go.Proofs.YtnognicabhgmcaaDoor
