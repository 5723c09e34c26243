/- Plain mathematics of the spans of a set: the longest runs of its bytes; their union; its least byte. -/
import Derived.Test.YtehikndlcepkgaaDoorOctMath
namespace Go.Proofs.YtehikndlcepkgaaDoor

/-- Is the byte ahead of k in the set? -/
def prv (s : OSet) (k : Nat) : Bool := decide (0 < k) && ohas s (k - 1)
/-- The last run is longer by a byte: k. -/
def grow1 : List (Nat × Nat) → Nat → List (Nat × Nat)
  | [], _ => []
  | [p], k => [(p.1, k)]
  | p :: q :: l, k => p :: grow1 (q :: l) k
/-- The runs among the bytes below k. -/
def spTo (s : OSet) : Nat → List (Nat × Nat)
  | 0 => []
  | k + 1 => if ohas s k then (if prv s k then grow1 (spTo s k) k else spTo s k ++ [(k, k)]) else spTo s k

theorem grow1_snoc (p : Nat × Nat) (k : Nat) : ∀ l : List (Nat × Nat), grow1 (l ++ [p]) k = l ++ [(p.1, k)]
  | [] => rfl
  | [a] => rfl
  | a :: b :: l => by
    have h := grow1_snoc p k (b :: l)
    simp only [List.cons_append] at h ⊢
    rw [grow1, h]
theorem prv_succ (s : OSet) (k : Nat) : prv s (k + 1) = ohas s k := by simp [prv]

/-- What is true of the runs among the bytes below k: they are told in order, apart; the last one ends at k - 1 if that byte is in the set, before it else; the bytes below k that are in the set are just theirs. -/
structure SpOk (s : OSet) (k : Nat) (l : List (Nat × Nat)) : Prop where
  le : ∀ p ∈ l, p.1 ≤ p.2 ∧ p.2 < k
  apart : ∀ i, ∀ h : i + 1 < l.length, (l[i]'(by omega)).2 + 1 < (l[i + 1]'h).1
  mem : ∀ b, b < k → (ohas s b = true ↔ ∃ p ∈ l, p.1 ≤ b ∧ b ≤ p.2)
  last : prv s k = true → ∃ a p, l = a ++ [p] ∧ p.2 + 1 = k
  gap : prv s k = false → ∀ p ∈ l, p.2 + 1 < k ∨ k = 0

theorem spOk (s : OSet) : ∀ k, SpOk s k (spTo s k)
  | 0 => ⟨by simp [spTo], by simp [spTo], by simp, by simp [prv], by simp [spTo]⟩
  | k + 1 => by
    have ih := spOk s k
    unfold spTo
    by_cases hk : ohas s k = true
    · rw [if_pos hk]
      have hp1 : prv s (k + 1) = true := by rw [prv_succ, hk]
      by_cases hp : prv s k = true
      · rw [if_pos hp]
        obtain ⟨a, p, hl, hpk⟩ := ih.last hp
        rw [hl, grow1_snoc]
        rw [hl] at ih
        refine ⟨?_, ?_, ?_, fun _ => ⟨a, _, rfl, rfl⟩, fun h => by rw [hp1] at h; cases h⟩
        · intro q hq
          rcases List.mem_append.1 hq with hq | hq
          · have := ih.le q (List.mem_append_left _ hq); omega
          · simp only [List.mem_singleton] at hq
            have := ih.le p (by simp)
            subst hq
            simp only
            omega
        · intro i h
          have h1 := ih.apart i (by simpa using h)
          simp only [List.length_append, List.length_cons, List.length_nil] at h
          by_cases hi : i + 1 < a.length
          · rw [List.getElem_append_left (by omega), List.getElem_append_left hi] at h1 ⊢
            exact h1
          · have e : i + 1 = a.length := by omega
            rw [List.getElem_append_left (by omega), List.getElem_append_right (by omega)] at h1 ⊢
            simp only [e, Nat.sub_self, List.getElem_cons_zero] at h1 ⊢
            exact h1
        · intro b hb
          by_cases hbk : b < k
          · rw [ih.mem b hbk]
            constructor
            · rintro ⟨q, hq, h1, h2⟩
              rcases List.mem_append.1 hq with hq | hq
              · exact ⟨q, List.mem_append_left _ hq, h1, h2⟩
              · simp only [List.mem_singleton] at hq
                subst hq
                exact ⟨(q.1, k), by simp, h1, by simp only; omega⟩
            · rintro ⟨q, hq, h1, h2⟩
              rcases List.mem_append.1 hq with hq | hq
              · exact ⟨q, List.mem_append_left _ hq, h1, h2⟩
              · simp only [List.mem_singleton] at hq
                subst hq
                simp only at h1 h2
                exact ⟨p, by simp, h1, by omega⟩
          · have e : b = k := by omega
            subst e
            refine ⟨fun _ => ⟨(p.1, b), by simp, ?_, by simp⟩, fun _ => hk⟩
            have := ih.le p (by simp)
            simp only; omega
      · have hp' : prv s k = false := by simpa using hp
        rw [if_neg hp]
        refine ⟨?_, ?_, ?_, fun _ => ⟨_, _, rfl, rfl⟩, fun h => by rw [hp1] at h; cases h⟩
        · intro q hq
          rcases List.mem_append.1 hq with hq | hq
          · have := ih.le q hq; omega
          · simp only [List.mem_singleton] at hq
            subst hq; simp
        · intro i h
          simp only [List.length_append, List.length_cons, List.length_nil] at h
          by_cases hi : i + 1 < (spTo s k).length
          · rw [List.getElem_append_left (by omega), List.getElem_append_left hi]
            exact ih.apart i hi
          · have e : i + 1 = (spTo s k).length := by omega
            rw [List.getElem_append_left (by omega), List.getElem_append_right (by omega)]
            simp only [e, Nat.sub_self, List.getElem_cons_zero]
            have hm := List.getElem_mem (l := spTo s k) (n := i) (by omega)
            rcases ih.gap hp' _ hm with h1 | h1
            · exact h1
            · have := ih.le _ hm; omega
        · intro b hb
          by_cases hbk : b < k
          · rw [ih.mem b hbk]
            constructor
            · rintro ⟨q, hq, h1, h2⟩
              exact ⟨q, List.mem_append_left _ hq, h1, h2⟩
            · rintro ⟨q, hq, h1, h2⟩
              rcases List.mem_append.1 hq with hq | hq
              · exact ⟨q, hq, h1, h2⟩
              · simp only [List.mem_singleton] at hq
                subst hq
                simp only at h1 h2
                omega
          · have e : b = k := by omega
            subst e
            exact ⟨fun _ => ⟨(b, b), by simp, by simp, by simp⟩, fun _ => hk⟩
    · have hk' : ohas s k = false := by simpa using hk
      rw [if_neg hk]
      have hp1 : prv s (k + 1) = false := by rw [prv_succ, hk']
      refine ⟨?_, ih.apart, ?_, fun h => (by rw [hp1] at h; cases h), ?_⟩
      · intro q hq; have := ih.le q hq; omega
      · intro b hb
        by_cases hbk : b < k
        · exact ih.mem b hbk
        · have e : b = k := by omega
          subst e
          rw [hk']
          refine ⟨fun h => (by cases h), ?_⟩
          rintro ⟨q, hq, h1, h2⟩
          have := ih.le q hq
          omega
      · intro _ q hq
        have := ih.le q hq
        omega

/-- The spans of a set. -/
def sps (s : OSet) : List (Nat × Nat) := spTo s 256
theorem spTo_len (s : OSet) : ∀ k, (spTo s k).length ≤ k
  | 0 => Nat.le_refl _
  | k + 1 => by
    have ih := spTo_len s k
    unfold spTo
    have hg : ∀ l : List (Nat × Nat), (grow1 l k).length = l.length := by
      intro l
      rcases List.eq_nil_or_concat l with rfl | ⟨a, p, rfl⟩
      · rfl
      · rw [List.concat_eq_append, grow1_snoc]; simp
    split
    · split
      · rw [hg]; omega
      · simp; omega
    · omega

theorem ospan_get (lo : Nat) (k : Nat) : ∀ n, lo + n ≤ 256 → (ospan lo n).getLsbD k = (decide (lo ≤ k) && decide (k < lo + n))
  | 0, _ => by
    simp only [ospan, oz]
    by_cases h : lo ≤ k
    · simp [h]
    · simp [h]
  | n + 1, hn => by
    rw [ospan, BitVec.getLsbD_or, ospan_get lo k n (by omega), obit_get _ _ (by omega)]
    by_cases h : lo ≤ k <;> by_cases h2 : k < lo + n <;> by_cases h3 : lo + n = k <;> simp [h, h2, h3] <;> omega

/-- The union of some spans. -/
def unn (l : List (Nat × Nat)) : OSet := l.foldl (fun s p => s ||| oSpan p.1 p.2) oz
theorem unn_snoc (l : List (Nat × Nat)) (i : Nat) (h : i < l.length) : unn (l.take (i + 1)) = unn (l.take i) ||| oSpan (l[i]).1 (l[i]).2 := by
  unfold unn
  rw [List.take_succ_eq_append_getElem h, List.foldl_append]
  rfl
theorem unn_fold (k : Nat) : ∀ (l : List (Nat × Nat)) (s : OSet), (∀ p ∈ l, p.1 ≤ p.2 ∧ p.2 < 256) →
    ((l.foldl (fun s p => s ||| oSpan p.1 p.2) s).getLsbD k = true ↔ s.getLsbD k = true ∨ ∃ p ∈ l, p.1 ≤ k ∧ k ≤ p.2)
  | [], s, _ => by simp
  | p :: l, s, h => by
    have hp := h p (by simp)
    rw [List.foldl_cons, unn_fold k l _ (fun q hq => h q (by simp [hq])), BitVec.getLsbD_or]
    unfold oSpan
    rw [Int.toNat_natCast, show ((p.2 : Int) - (p.1 : Int) + 1).toNat = p.2 + 1 - p.1 by omega, ospan_get _ _ _ (by omega)]
    simp only [Bool.or_eq_true, Bool.and_eq_true, decide_eq_true_eq, List.mem_cons]
    constructor
    · rintro ((h1 | h1) | ⟨q, hq, h1⟩)
      · exact Or.inl h1
      · exact Or.inr ⟨p, Or.inl rfl, by omega, by omega⟩
      · exact Or.inr ⟨q, Or.inr hq, h1⟩
    · rintro (h1 | ⟨q, rfl | hq, h1⟩)
      · exact Or.inl (Or.inl h1)
      · exact Or.inl (Or.inr (by omega))
      · exact Or.inr ⟨q, hq, h1⟩
/-- A set is the union of its spans. -/
theorem unn_sps (s : OSet) : unn (sps s) = s := by
  have ok := spOk s 256
  refine BitVec.eq_of_getLsbD_eq fun k hk => ?_
  rw [Bool.eq_iff_iff]
  unfold unn
  rw [unn_fold k (sps s) oz (fun p hp => ok.le p hp)]
  have := ok.mem k hk
  unfold ohas at this
  rw [this]
  simp [oz, sps]

/-- The first span begins with the least byte of the set; a set without a span is empty. -/
theorem sps_nil (s : OSet) (h : sps s = []) : s = oz := by rw [← unn_sps s, h]; rfl
theorem sps_first (s : OSet) (p : Nat × Nat) (l : List (Nat × Nat)) (h : sps s = p :: l) : p.1 < 256 ∧ ohas s p.1 = true ∧ ∀ b, b < p.1 → ohas s b = false := by
  have ok := spOk s 256
  have e : spTo s 256 = p :: l := h
  rw [e] at ok
  have hp := ok.le p (by simp)
  refine ⟨by omega, (ok.mem p.1 (by omega)).2 ⟨p, by simp, by omega, by omega⟩, fun b hb => ?_⟩
  cases hx : ohas s b
  · rfl
  · exfalso
    obtain ⟨q, hq, h1, h2⟩ := (ok.mem b (by omega)).1 hx
    -- every span begins at p.1 or later
    have key : ∀ i, ∀ hi : i < (p :: l).length, p.1 ≤ ((p :: l)[i]'hi).1 := by
      intro i
      induction i with
      | zero => intro hi; exact Nat.le_refl _
      | succ i ih =>
        intro hi
        have h3 := ih (by omega)
        have h4 := ok.apart i hi
        have h5 := ok.le _ (List.getElem_mem (l := p :: l) (n := i) (by omega))
        omega
    obtain ⟨i, hi, rfl⟩ := List.getElem_of_mem hq
    have := key i hi
    omega

end Go.Proofs.YtehikndlcepkgaaDoor
