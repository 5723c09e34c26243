/- OctMath: Plain mathematics of sets of bytes: a set as 256 bits, its four words, its bits one by one. No program is named here.
   SpMath: Plain mathematics of the spans of a set: the longest runs of its bytes; their union; its least byte.
   TrMath: Plain mathematics of the document's trees: a node, its parts, what is asked of it. No program is named here.
   NdMath: Plain mathematics of trees: what a regex is made of; the document's node as one. No program is named here.
   NdJoinM: Parts joined, and chosen among. No program is named here.
   NdFitsM: Whether a node may stand where it does. No program is named here.
   NdEv: A tree gone through from the front: each node as it begins and as it ends; what is still to come of a stack of open nodes. No program is named here.
   NdRightM: Whether a tree is right, event by event, and by its parts. No program is named here.
   TrRightM: Whether a tree is right, by its head and its parts. No program is named here.
   NdJoinP: What joined, and chosen among, parts have together. No program is named here.
   TxtMath: Plain mathematics of bytes as signs: a wide text, and back; how the model decodes such a text. No program is named here. -/
import GoSem.Claim
import Derived.Laws.Bits64b
import Derived.Laws.Bits64
import Derived.Laws.BitsAllLaws
import Derived.Lib.DecodeN
import Derived.Lib.RuneBytes
import Derived.Laws.BytesArg
namespace Go.Proofs.YtnognicabhgmcaaDoor

/-- A set of bytes: bit number b says whether the byte b is in it. -/
abbrev OSet := BitVec 256

/-- Word number i of a set, as a number. -/
def owN (s : OSet) (i : Nat) : Nat := s.toNat / 2 ^ (64 * i) % 18446744073709551616
def ow (s : OSet) (i : Nat) : Int := (owN s i : Int)

theorem owN_lt (s : OSet) (i : Nat) : owN s i < 18446744073709551616 := Nat.mod_lt _ (by decide)
theorem ow_nonneg (s : OSet) (i : Nat) : 0 ≤ ow s i := Int.natCast_nonneg _
theorem ow_lt (s : OSet) (i : Nat) : ow s i < 18446744073709551616 := by have := owN_lt s i; unfold ow; omega

theorem owN_testBit (s : OSet) (i j : Nat) : (owN s i).testBit j = (decide (j < 64) && s.getLsbD (64 * i + j)) := by
  unfold owN
  rw [show (18446744073709551616 : Nat) = 2 ^ 64 from rfl, Nat.testBit_mod_two_pow, Nat.testBit_div_two_pow]
  rw [BitVec.getLsbD]
  congr 2
  omega

theorem owN_eq (s : OSet) (i n : Nat) (hn : n < 18446744073709551616) (h : ∀ j, j < 64 → n.testBit j = s.getLsbD (64 * i + j)) : n = owN s i := by
  refine Nat.eq_of_testBit_eq fun j => ?_
  rw [owN_testBit]
  by_cases hj : j < 64
  · rw [h j hj]; simp [hj]
  · rw [Nat.testBit_lt_two_pow (Nat.lt_of_lt_of_le hn (by rw [show (18446744073709551616 : Nat) = 2 ^ 64 from rfl]; exact Nat.pow_le_pow_right (by decide) (by omega)))]
    simp [hj]

/-- Sets whose four words are the same are the same. -/
theorem oset_ext {s t : OSet} (h : ∀ i, i < 4 → ow s i = ow t i) : s = t := by
  refine BitVec.eq_of_getLsbD_eq fun k hk => ?_
  have h1 : owN s (k / 64) = owN t (k / 64) := by
    have := h (k / 64) (by omega)
    unfold ow at this; omega
  have h2 := owN_testBit s (k / 64) (k % 64)
  have h3 := owN_testBit t (k / 64) (k % 64)
  rw [h1, h3] at h2
  have h4 : 64 * (k / 64) + k % 64 = k := by omega
  have h5 : k % 64 < 64 := by omega
  rw [h4] at h2
  simpa [h5] using h2.symm

theorem oset_ne {s t : OSet} (h : s ≠ t) : ¬ (ow s 0 = ow t 0 ∧ ow s 1 = ow t 1 ∧ ow s 2 = ow t 2 ∧ ow s 3 = ow t 3) := by
  intro ⟨h0, h1, h2, h3⟩
  refine h (oset_ext fun i hi => ?_)
  match i, hi with
  | 0, _ => exact h0
  | 1, _ => exact h1
  | 2, _ => exact h2
  | 3, _ => exact h3

/-- Any four words are those of a set. -/
theorem oset_of (a b c d : Int) (ha : 0 ≤ a) (ha' : a < 18446744073709551616) (hb : 0 ≤ b) (hb' : b < 18446744073709551616) (hc : 0 ≤ c) (hc' : c < 18446744073709551616) (hd : 0 ≤ d) (hd' : d < 18446744073709551616) :
    ∃ s : OSet, a = ow s 0 ∧ b = ow s 1 ∧ c = ow s 2 ∧ d = ow s 3 := by
  obtain ⟨a, rfl⟩ := Int.eq_ofNat_of_zero_le ha
  obtain ⟨b, rfl⟩ := Int.eq_ofNat_of_zero_le hb
  obtain ⟨c, rfl⟩ := Int.eq_ofNat_of_zero_le hc
  obtain ⟨d, rfl⟩ := Int.eq_ofNat_of_zero_le hd
  have hlt : a + b * 2 ^ 64 + c * 2 ^ 128 + d * 2 ^ 192 < 2 ^ 256 := by omega
  refine ⟨BitVec.ofNat 256 (a + b * 2 ^ 64 + c * 2 ^ 128 + d * 2 ^ 192), ?_, ?_, ?_, ?_⟩ <;>
    (unfold ow owN; rw [BitVec.toNat_ofNat, Nat.mod_eq_of_lt hlt]; simp only [Nat.mul_zero, Nat.mul_one, Nat.reduceMul, Nat.reducePow]; omega)

theorem owN_and (s t : OSet) (i : Nat) : owN s i &&& owN t i = owN (s &&& t) i := by
  refine owN_eq _ _ _ (Nat.lt_of_le_of_lt Nat.and_le_left (owN_lt s i)) fun j hj => ?_
  simp [Nat.testBit_and, owN_testBit, hj]

theorem owN_or (s t : OSet) (i : Nat) : owN s i ||| owN t i = owN (s ||| t) i := by
  refine owN_eq _ _ _ ?_ fun j hj => ?_
  · rw [show (18446744073709551616 : Nat) = 2 ^ 64 from rfl]
    exact Nat.or_lt_two_pow (owN_lt s i) (owN_lt t i)
  · simp [Nat.testBit_or, owN_testBit, hj]

theorem owN_not (s : OSet) (i : Nat) (hi : i < 4) : 18446744073709551615 - owN s i = owN (~~~s) i := by
  refine owN_eq _ _ _ (by omega) fun j hj => ?_
  have h := Nat.testBit_two_pow_sub_succ (n := 64) (owN_lt s i) j
  rw [show (2 : Nat) ^ 64 - (owN s i + 1) = 18446744073709551615 - owN s i by have := owN_lt s i; omega] at h
  rw [h, owN_testBit]
  have h256 : 64 * i + j < 256 := by omega
  simp [hj, h256]

theorem bits_and_ow (s t : OSet) (i : Nat) : bits .and .u64 (ow s i) (ow t i) = ow (s &&& t) i := by
  unfold ow
  rw [bits_and_u64_nat _ _ (owN_lt s i) (owN_lt t i), owN_and]

theorem bits_or_ow (s t : OSet) (i : Nat) : bits .or .u64 (ow s i) (ow t i) = ow (s ||| t) i := by
  unfold ow
  rw [bits_or_u64_nat _ _ (owN_lt s i) (owN_lt t i), owN_or]

theorem xor_max (n : Nat) (h : n < 18446744073709551616) : 18446744073709551615 ^^^ n = 18446744073709551615 - n := by
  refine Nat.eq_of_testBit_eq fun j => ?_
  have h2 := Nat.testBit_two_pow_sub_succ (n := 64) h j
  rw [show (2 : Nat) ^ 64 - (n + 1) = 18446744073709551615 - n by omega] at h2
  rw [h2, Nat.testBit_xor, show (18446744073709551615 : Nat) = 2 ^ 64 - 1 from rfl, Nat.testBit_two_pow_sub_one]
  by_cases hj : j < 64
  · simp [hj]
  · rw [Nat.testBit_lt_two_pow (Nat.lt_of_lt_of_le h (by rw [show (18446744073709551616 : Nat) = 2 ^ 64 from rfl]; exact Nat.pow_le_pow_right (by decide) (by omega)))]
    simp [hj]

theorem bits_not_ow (s : OSet) (i : Nat) (hi : i < 4) : bits .xor .u64 18446744073709551615 (ow s i) = ow (~~~s) i := by
  unfold ow
  have h := bits_xor_u64_nat 18446744073709551615 (owN s i) (by decide) (owN_lt s i)
  rw [xor_max _ (owN_lt s i), owN_not s i hi] at h
  exact h

/-- Is byte x in the set? -/
def ohas (s : OSet) (x : Nat) : Bool := s.getLsbD x
/-- The set of one byte. -/
def obit (x : Nat) : OSet := BitVec.ofNat 256 (2 ^ x)

theorem obit_get (x y : Nat) (hx : x < 256) : (obit x).getLsbD y = decide (x = y) := by
  unfold obit
  rw [BitVec.getLsbD_ofNat, Nat.testBit_two_pow]
  by_cases h : x = y
  · subst h; simp [hx]
  · simp [h]

theorem ow_div (s : OSet) (i j : Nat) (hj : j < 64) : owN s i / 2 ^ j % 2 = (s.getLsbD (64 * i + j)).toNat := by
  have h := owN_testBit s i j
  rw [Nat.testBit_eq_decide_div_mod_eq] at h
  simp only [hj, decide_true, Bool.true_and] at h
  have h2 : owN s i / 2 ^ j % 2 = 0 ∨ owN s i / 2 ^ j % 2 = 1 := by omega
  rcases h2 with h2 | h2
  · rw [h2] at h; rw [h2, ← h]; simp
  · rw [h2] at h; rw [h2, ← h]; simp

/-- What the code asks of a word for one byte. -/
theorem has_word (s : OSet) (i : Nat) (x : Int) (h0 : 0 ≤ x) (h1 : x ≤ 255) (hi : x / 64 = i) : (ow s i / 2 ^ (x % 64).toNat) % 2 = if ohas s x.toNat then 1 else 0 := by
  obtain ⟨n, rfl⟩ := Int.eq_ofNat_of_zero_le h0
  have e1 : ((n : Int) % 64).toNat = n % 64 := by omega
  have e2 : 64 * i + n % 64 = n := by omega
  have h := ow_div s i (n % 64) (by omega)
  rw [e2] at h
  rw [e1, Int.toNat_natCast]
  unfold ow ohas
  have e3 : ((owN s i : Int) / 2 ^ (n % 64) % 2) = ((owN s i / 2 ^ (n % 64) % 2 : Nat) : Int) := by simp
  rw [e3, h]
  cases s.getLsbD n <;> simp

theorem has_div_nonneg (s : OSet) (i k : Nat) : 0 ≤ ow s i / 2 ^ k := Int.ediv_nonneg (ow_nonneg s i) (by exact_mod_cast Nat.zero_le _)
theorem has_div_lt (s : OSet) (i k : Nat) : ow s i / 2 ^ k < 18446744073709551616 := by
  refine Int.lt_of_le_of_lt ?_ (ow_lt s i)
  exact Int.ediv_le_self _ (ow_nonneg s i)

theorem has_and (s : OSet) (i : Nat) (x : Int) (h0 : 0 ≤ x) (h1 : x ≤ 255) (hi : x / 64 = i) : (bits .and .u64 (ow s i / 2 ^ (x % 64).toNat) 1 == 1) = ohas s x.toNat := by
  have h2 := has_div_nonneg s i (x % 64).toNat
  have h3 := has_div_lt s i (x % 64).toNat
  have h := bits_and_u64_nat (ow s i / 2 ^ (x % 64).toNat).toNat 1 (by omega) (by omega)
  rw [Nat.and_one_is_mod, Int.toNat_of_nonneg h2] at h
  have h4 := has_word s i x h0 h1 hi
  have h5 : (((ow s i / 2 ^ (x % 64).toNat).toNat % 2 : Nat) : Int) = (ow s i / 2 ^ (x % 64).toNat) % 2 := by omega
  rw [show ((1 : Nat) : Int) = 1 from rfl] at h
  rw [h, h5, h4]
  cases ohas s x.toNat <;> rfl

theorem has_mod (s : OSet) (i : Nat) (x : Int) (h0 : 0 ≤ x) (h1 : x ≤ 255) (hi : x / 64 = i) : ((ow s i / 2 ^ (x % 64).toNat) % 2 == 1) = ohas s x.toNat := by
  rw [has_word s i x h0 h1 hi]
  cases ohas s x.toNat <;> rfl

/-- One byte more, word by word. -/
theorem owN_bit (s : OSet) (i x : Nat) (hx : x < 256) (hi : x / 64 = i) : owN s i ||| 2 ^ (x % 64) = owN (s ||| obit x) i := by
  have hp : 2 ^ (x % 64) < 2 ^ 64 := Nat.pow_lt_pow_right (by decide) (by omega)
  refine owN_eq _ _ _ ?_ fun j hj => ?_
  · rw [show (18446744073709551616 : Nat) = 2 ^ 64 from rfl]
    exact Nat.or_lt_two_pow (owN_lt s i) hp
  · rw [Nat.testBit_or, owN_testBit, BitVec.getLsbD_or, obit_get _ _ hx, Nat.testBit_two_pow]
    simp only [hj, decide_true, Bool.true_and]
    congr 1
    exact decide_eq_decide.2 (by omega)

theorem owN_bit_other (s : OSet) (i x : Nat) (hx : x < 256) (hi : x / 64 ≠ i) : owN s i = owN (s ||| obit x) i := by
  refine owN_eq _ _ _ (owN_lt s i) fun j hj => ?_
  rw [owN_testBit, BitVec.getLsbD_or, obit_get _ _ hx]
  have : x ≠ 64 * i + j := by omega
  simp [hj, this]

theorem bits_add_ow (s : OSet) (i : Nat) (x : Int) (h0 : 0 ≤ x) (h1 : x ≤ 255) (hi : x / 64 = i) : bits .or .u64 (ow s i) (2 ^ (x % 64).toNat) = ow (s ||| obit x.toNat) i := by
  obtain ⟨n, rfl⟩ := Int.eq_ofNat_of_zero_le h0
  have e1 : ((n : Int) % 64).toNat = n % 64 := by omega
  have hp : 2 ^ (n % 64) < 2 ^ 64 := Nat.pow_lt_pow_right (by decide) (by omega)
  have h := bits_or_u64_nat (owN s i) (2 ^ (n % 64)) (owN_lt s i) hp
  rw [owN_bit s i n (by omega) (by omega)] at h
  rw [e1, Int.toNat_natCast]
  unfold ow
  rw [← h]
  simp

theorem ow_other (s : OSet) (i : Nat) (x : Int) (h0 : 0 ≤ x) (h1 : x ≤ 255) (hi : x / 64 ≠ i) : ow (s ||| obit x.toNat) i = ow s i := by
  unfold ow
  rw [← owN_bit_other s i x.toNat (by omega) (by omega)]

/-- The empty set. -/
def oz : OSet := 0
theorem ow_zero (i : Nat) : ow oz i = 0 := by simp [oz, ow, owN]

/-- The set of some bytes, of a list; of the bytes from one on, so many; from one to another one. -/
def ofl (zs : List Int) : OSet := zs.foldl (fun s x => s ||| obit x.toNat) oz
def ospan (lo : Nat) : Nat → OSet
  | 0 => oz
  | n + 1 => ospan lo n ||| obit (lo + n)
def oSpan (lo hi : Int) : OSet := ospan lo.toNat (hi - lo + 1).toNat

theorem ofl_nil : ofl [] = oz := rfl
theorem ofl_snoc (zs : List Int) (k : Nat) (h : k < zs.length) : ofl (zs.take (k + 1)) = ofl (zs.take k) ||| obit (zs.getD k 0).toNat := by
  unfold ofl
  rw [List.take_succ_eq_append_getElem h, List.foldl_append]
  simp [List.getD, List.getElem?_eq_getElem h]

end Go.Proofs.YtnognicabhgmcaaDoor
namespace Go.Proofs.YtnognicabhgmcaaDoor

/-- Is the byte ahead of k in the set? -/
def prv (s : OSet) (k : Nat) : Bool := decide (0 < k) && ohas s (k - 1)
/-- The last run is longer by a byte: k. -/
def grow1 : List (Nat × Nat) → Nat → List (Nat × Nat)
  | [], _ => []
  | [p], k => [(p.1, k)]
  | p :: q :: l, k => p :: grow1 (q :: l) k
/-- The runs among the bytes below k. -/
def spTo (s : OSet) : Nat → List (Nat × Nat)
  | 0 => []
  | k + 1 => if ohas s k then (if prv s k then grow1 (spTo s k) k else spTo s k ++ [(k, k)]) else spTo s k

theorem grow1_snoc (p : Nat × Nat) (k : Nat) : ∀ l : List (Nat × Nat), grow1 (l ++ [p]) k = l ++ [(p.1, k)]
  | [] => rfl
  | [a] => rfl
  | a :: b :: l => by
    have h := grow1_snoc p k (b :: l)
    simp only [List.cons_append] at h ⊢
    rw [grow1, h]
theorem prv_succ (s : OSet) (k : Nat) : prv s (k + 1) = ohas s k := by simp [prv]

/-- What is true of the runs among the bytes below k: they are told in order, apart; the last one ends at k - 1 if that byte is in the set, before it else; the bytes below k that are in the set are just theirs. -/
structure SpOk (s : OSet) (k : Nat) (l : List (Nat × Nat)) : Prop where
  le : ∀ p ∈ l, p.1 ≤ p.2 ∧ p.2 < k
  apart : ∀ i, ∀ h : i + 1 < l.length, (l[i]'(by omega)).2 + 1 < (l[i + 1]'h).1
  mem : ∀ b, b < k → (ohas s b = true ↔ ∃ p ∈ l, p.1 ≤ b ∧ b ≤ p.2)
  last : prv s k = true → ∃ a p, l = a ++ [p] ∧ p.2 + 1 = k
  gap : prv s k = false → ∀ p ∈ l, p.2 + 1 < k ∨ k = 0

theorem spOk (s : OSet) : ∀ k, SpOk s k (spTo s k)
  | 0 => ⟨by simp [spTo], by simp [spTo], by simp, by simp [prv], by simp [spTo]⟩
  | k + 1 => by
    have ih := spOk s k
    unfold spTo
    by_cases hk : ohas s k = true
    · rw [if_pos hk]
      have hp1 : prv s (k + 1) = true := by rw [prv_succ, hk]
      by_cases hp : prv s k = true
      · rw [if_pos hp]
        obtain ⟨a, p, hl, hpk⟩ := ih.last hp
        rw [hl, grow1_snoc]
        rw [hl] at ih
        refine ⟨?_, ?_, ?_, fun _ => ⟨a, _, rfl, rfl⟩, fun h => by rw [hp1] at h; cases h⟩
        · intro q hq
          rcases List.mem_append.1 hq with hq | hq
          · have := ih.le q (List.mem_append_left _ hq); omega
          · simp only [List.mem_singleton] at hq
            have := ih.le p (by simp)
            subst hq
            simp only
            omega
        · intro i h
          have h1 := ih.apart i (by simpa using h)
          simp only [List.length_append, List.length_cons, List.length_nil] at h
          by_cases hi : i + 1 < a.length
          · rw [List.getElem_append_left (by omega), List.getElem_append_left hi] at h1 ⊢
            exact h1
          · have e : i + 1 = a.length := by omega
            rw [List.getElem_append_left (by omega), List.getElem_append_right (by omega)] at h1 ⊢
            simp only [e, Nat.sub_self, List.getElem_cons_zero] at h1 ⊢
            exact h1
        · intro b hb
          by_cases hbk : b < k
          · rw [ih.mem b hbk]
            constructor
            · rintro ⟨q, hq, h1, h2⟩
              rcases List.mem_append.1 hq with hq | hq
              · exact ⟨q, List.mem_append_left _ hq, h1, h2⟩
              · simp only [List.mem_singleton] at hq
                subst hq
                exact ⟨(q.1, k), by simp, h1, by simp only; omega⟩
            · rintro ⟨q, hq, h1, h2⟩
              rcases List.mem_append.1 hq with hq | hq
              · exact ⟨q, List.mem_append_left _ hq, h1, h2⟩
              · simp only [List.mem_singleton] at hq
                subst hq
                simp only at h1 h2
                exact ⟨p, by simp, h1, by omega⟩
          · have e : b = k := by omega
            subst e
            refine ⟨fun _ => ⟨(p.1, b), by simp, ?_, by simp⟩, fun _ => hk⟩
            have := ih.le p (by simp)
            simp only; omega
      · have hp' : prv s k = false := by simpa using hp
        rw [if_neg hp]
        refine ⟨?_, ?_, ?_, fun _ => ⟨_, _, rfl, rfl⟩, fun h => by rw [hp1] at h; cases h⟩
        · intro q hq
          rcases List.mem_append.1 hq with hq | hq
          · have := ih.le q hq; omega
          · simp only [List.mem_singleton] at hq
            subst hq; simp
        · intro i h
          simp only [List.length_append, List.length_cons, List.length_nil] at h
          by_cases hi : i + 1 < (spTo s k).length
          · rw [List.getElem_append_left (by omega), List.getElem_append_left hi]
            exact ih.apart i hi
          · have e : i + 1 = (spTo s k).length := by omega
            rw [List.getElem_append_left (by omega), List.getElem_append_right (by omega)]
            simp only [e, Nat.sub_self, List.getElem_cons_zero]
            have hm := List.getElem_mem (l := spTo s k) (n := i) (by omega)
            rcases ih.gap hp' _ hm with h1 | h1
            · exact h1
            · have := ih.le _ hm; omega
        · intro b hb
          by_cases hbk : b < k
          · rw [ih.mem b hbk]
            constructor
            · rintro ⟨q, hq, h1, h2⟩
              exact ⟨q, List.mem_append_left _ hq, h1, h2⟩
            · rintro ⟨q, hq, h1, h2⟩
              rcases List.mem_append.1 hq with hq | hq
              · exact ⟨q, hq, h1, h2⟩
              · simp only [List.mem_singleton] at hq
                subst hq
                simp only at h1 h2
                omega
          · have e : b = k := by omega
            subst e
            exact ⟨fun _ => ⟨(b, b), by simp, by simp, by simp⟩, fun _ => hk⟩
    · have hk' : ohas s k = false := by simpa using hk
      rw [if_neg hk]
      have hp1 : prv s (k + 1) = false := by rw [prv_succ, hk']
      refine ⟨?_, ih.apart, ?_, fun h => (by rw [hp1] at h; cases h), ?_⟩
      · intro q hq; have := ih.le q hq; omega
      · intro b hb
        by_cases hbk : b < k
        · exact ih.mem b hbk
        · have e : b = k := by omega
          subst e
          rw [hk']
          refine ⟨fun h => (by cases h), ?_⟩
          rintro ⟨q, hq, h1, h2⟩
          have := ih.le q hq
          omega
      · intro _ q hq
        have := ih.le q hq
        omega

/-- The spans of a set. -/
def sps (s : OSet) : List (Nat × Nat) := spTo s 256
theorem spTo_len (s : OSet) : ∀ k, (spTo s k).length ≤ k
  | 0 => Nat.le_refl _
  | k + 1 => by
    have ih := spTo_len s k
    unfold spTo
    have hg : ∀ l : List (Nat × Nat), (grow1 l k).length = l.length := by
      intro l
      rcases List.eq_nil_or_concat l with rfl | ⟨a, p, rfl⟩
      · rfl
      · rw [List.concat_eq_append, grow1_snoc]; simp
    split
    · split
      · rw [hg]; omega
      · simp; omega
    · omega

theorem ospan_get (lo : Nat) (k : Nat) : ∀ n, lo + n ≤ 256 → (ospan lo n).getLsbD k = (decide (lo ≤ k) && decide (k < lo + n))
  | 0, _ => by
    simp only [ospan, oz]
    by_cases h : lo ≤ k
    · simp [h]
    · simp [h]
  | n + 1, hn => by
    rw [ospan, BitVec.getLsbD_or, ospan_get lo k n (by omega), obit_get _ _ (by omega)]
    by_cases h : lo ≤ k <;> by_cases h2 : k < lo + n <;> by_cases h3 : lo + n = k <;> simp [h, h2, h3] <;> omega

/-- The union of some spans. -/
def unn (l : List (Nat × Nat)) : OSet := l.foldl (fun s p => s ||| oSpan p.1 p.2) oz
theorem unn_snoc (l : List (Nat × Nat)) (i : Nat) (h : i < l.length) : unn (l.take (i + 1)) = unn (l.take i) ||| oSpan (l[i]).1 (l[i]).2 := by
  unfold unn
  rw [List.take_succ_eq_append_getElem h, List.foldl_append]
  rfl
theorem unn_fold (k : Nat) : ∀ (l : List (Nat × Nat)) (s : OSet), (∀ p ∈ l, p.1 ≤ p.2 ∧ p.2 < 256) →
    ((l.foldl (fun s p => s ||| oSpan p.1 p.2) s).getLsbD k = true ↔ s.getLsbD k = true ∨ ∃ p ∈ l, p.1 ≤ k ∧ k ≤ p.2)
  | [], s, _ => by simp
  | p :: l, s, h => by
    have hp := h p (by simp)
    rw [List.foldl_cons, unn_fold k l _ (fun q hq => h q (by simp [hq])), BitVec.getLsbD_or]
    unfold oSpan
    rw [Int.toNat_natCast, show ((p.2 : Int) - (p.1 : Int) + 1).toNat = p.2 + 1 - p.1 by omega, ospan_get _ _ _ (by omega)]
    simp only [Bool.or_eq_true, Bool.and_eq_true, decide_eq_true_eq, List.mem_cons]
    constructor
    · rintro ((h1 | h1) | ⟨q, hq, h1⟩)
      · exact Or.inl h1
      · exact Or.inr ⟨p, Or.inl rfl, by omega, by omega⟩
      · exact Or.inr ⟨q, Or.inr hq, h1⟩
    · rintro (h1 | ⟨q, rfl | hq, h1⟩)
      · exact Or.inl (Or.inl h1)
      · exact Or.inl (Or.inr (by omega))
      · exact Or.inr ⟨q, hq, h1⟩
/-- A set is the union of its spans. -/
theorem unn_sps (s : OSet) : unn (sps s) = s := by
  have ok := spOk s 256
  refine BitVec.eq_of_getLsbD_eq fun k hk => ?_
  rw [Bool.eq_iff_iff]
  unfold unn
  rw [unn_fold k (sps s) oz (fun p hp => ok.le p hp)]
  have := ok.mem k hk
  unfold ohas at this
  rw [this]
  simp [oz, sps]

/-- The first span begins with the least byte of the set; a set without a span is empty. -/
theorem sps_nil (s : OSet) (h : sps s = []) : s = oz := by rw [← unn_sps s, h]; rfl
theorem sps_first (s : OSet) (p : Nat × Nat) (l : List (Nat × Nat)) (h : sps s = p :: l) : p.1 < 256 ∧ ohas s p.1 = true ∧ ∀ b, b < p.1 → ohas s b = false := by
  have ok := spOk s 256
  have e : spTo s 256 = p :: l := h
  rw [e] at ok
  have hp := ok.le p (by simp)
  refine ⟨by omega, (ok.mem p.1 (by omega)).2 ⟨p, by simp, by omega, by omega⟩, fun b hb => ?_⟩
  cases hx : ohas s b
  · rfl
  · exfalso
    obtain ⟨q, hq, h1, h2⟩ := (ok.mem b (by omega)).1 hx
    -- every span begins at p.1 or later
    have key : ∀ i, ∀ hi : i < (p :: l).length, p.1 ≤ ((p :: l)[i]'hi).1 := by
      intro i
      induction i with
      | zero => intro hi; exact Nat.le_refl _
      | succ i ih =>
        intro hi
        have h3 := ih (by omega)
        have h4 := ok.apart i hi
        have h5 := ok.le _ (List.getElem_mem (l := p :: l) (n := i) (by omega))
        omega
    obtain ⟨i, hi, rfl⟩ := List.getElem_of_mem hq
    have := key i hi
    omega

end Go.Proofs.YtnognicabhgmcaaDoor
namespace Go.Proofs.YtnognicabhgmcaaDoor

/-- A node of the document: its kind, its set, its bounds and number, its parts. -/
inductive Tr where
  | mk (kind : Int) (set : OSet) (mn mx num : Int) (kids : List Tr)
def Tr.kind : Tr → Int | .mk k _ _ _ _ _ => k
def Tr.set : Tr → OSet | .mk _ s _ _ _ _ => s
def Tr.mn : Tr → Int | .mk _ _ a _ _ _ => a
def Tr.mx : Tr → Int | .mk _ _ _ b _ _ => b
def Tr.num : Tr → Int | .mk _ _ _ _ c _ => c
def Tr.parts : Tr → List Tr | .mk _ _ _ _ _ ps => ps
/-- The empty node. -/
def tz : Tr := .mk 0 oz 0 0 0 []
instance : Inhabited Tr := ⟨tz⟩
mutual
/-- How much there is of a node, whatever its kind. -/
def tall : Tr → Nat
  | .mk _ _ _ _ _ ps => 1 + talls ps
def talls : List Tr → Nat
  | [] => 0
  | t :: ts => tall t + talls ts
end
mutual
/-- Are all kinds among the nine? -/
def tknown : Tr → Bool
  | .mk k _ _ _ _ ps => decide (0 ≤ k) && decide (k ≤ 8) && tknowns ps
def tknowns : List Tr → Bool
  | [] => true
  | t :: ts => tknown t && tknowns ts
end
/-- What a Rep, or a Group, is of. -/
def tof (t : Tr) : Tr := t.parts.headD tz
/-- A node's parts, by its kind. -/
def tkids (t : Tr) : List Tr := if t.kind = 2 ∨ t.kind = 3 then t.parts else if t.kind = 4 ∨ t.kind = 5 then [tof t] else []

theorem talls_pos (t : Tr) : 1 ≤ tall t := by cases t; unfold tall; omega
theorem talls_append (a b : List Tr) : talls (a ++ b) = talls a + talls b := by
  induction a with
  | nil => simp [talls]
  | cons t ts ih => rw [List.cons_append, talls, talls, ih]; omega
theorem talls_take (ps : List Tr) (i : Nat) (h : i < ps.length) : talls (ps.take (i + 1)) = talls (ps.take i) + tall ps[i] := by
  rw [List.take_succ_eq_append_getElem h, talls_append]
  simp [talls]
theorem talls_length (ps : List Tr) : ps.length ≤ talls ps := by
  induction ps with
  | nil => simp [talls]
  | cons t ts ih => have := talls_pos t; rw [talls, List.length_cons]; omega
theorem tall_mem (ps : List Tr) (i : Nat) (h : i < ps.length) : tall ps[i] ≤ talls ps := by
  induction ps generalizing i with
  | nil => simp at h
  | cons t ts ih =>
    rw [talls]
    cases i with
    | zero => simp
    | succ i => have := ih i (by simpa using h); simp; omega
theorem tknowns_take (ps : List Tr) (i : Nat) (h : i < ps.length) : tknowns (ps.take (i + 1)) = (tknowns (ps.take i) && tknown ps[i]) := by
  rw [List.take_succ_eq_append_getElem h]
  generalize ps[i] = t
  induction ps.take i with
  | nil => simp [tknowns]
  | cons x xs ih => rw [List.cons_append, tknowns, tknowns, ih, Bool.and_assoc]
theorem talls_le (ps : List Tr) (i : Nat) : talls (ps.take i) ≤ talls ps := by
  have h := talls_append (ps.take i) (ps.drop i)
  rw [List.take_append_drop] at h
  omega
theorem tknowns_all (ps : List Tr) (i : Nat) (h : i < ps.length) (hk : tknown ps[i] = false) : tknowns ps = false := by
  induction ps generalizing i with
  | nil => simp at h
  | cons t ts ih =>
    rw [tknowns]
    cases i with
    | zero => rw [show tknown t = false from hk]; rfl
    | succ i => rw [ih i (by simpa using h) (by simpa using hk), Bool.and_false]
end Go.Proofs.YtnognicabhgmcaaDoor
namespace Go.Proofs.YtnognicabhgmcaaDoor

/-- What a regex is made of. -/
inductive Nd where
  | empty
  | one (s : OSet)
  | cat (l : List Nd)
  | alt (l : List Nd)
  | rep (d : Nd) (mn mx : Int)
  | group (num : Int) (d : Nd)
  | back (num : Int)
  | start
  | fin
instance : Inhabited Nd := ⟨.empty⟩
/-- Its parts. -/
def nkids : Nd → List Nd
  | .cat l => l
  | .alt l => l
  | .rep d _ _ => [d]
  | .group _ d => [d]
  | _ => []
mutual
/-- A node of the document as what it is. -/
def canon : Tr → Nd
  | .mk k s mn mx num ps =>
    if k = 1 then .one s else if k = 2 then .cat (canons ps) else if k = 3 then .alt (canons ps)
    else if k = 4 then .rep (canon0 ps) mn mx else if k = 5 then .group num (canon0 ps)
    else if k = 6 then .back num else if k = 7 then .start else if k = 8 then .fin else .empty
def canons : List Tr → List Nd
  | [] => []
  | t :: ts => canon t :: canons ts
def canon0 : List Tr → Nd
  | [] => .empty
  | t :: _ => canon t
end
mutual
/-- How many nodes. -/
def nsize : Nd → Nat
  | .cat l => 1 + nsizes l
  | .alt l => 1 + nsizes l
  | .rep d _ _ => 1 + nsize d
  | .group _ d => 1 + nsize d
  | _ => 1
def nsizes : List Nd → Nat
  | [] => 0
  | d :: ds => nsize d + nsizes ds
end
mutual
/-- How many groups are in one another. -/
def ndeep : Nd → Nat
  | .cat l => ndeeps l
  | .alt l => ndeeps l
  | .rep d _ _ => ndeep d
  | .group _ d => ndeep d + 1
  | _ => 0
def ndeeps : List Nd → Nat
  | [] => 0
  | d :: ds => max (ndeep d) (ndeeps ds)
end
mutual
/-- How many groups. -/
def ngroups : Nd → Nat
  | .cat l => ngroupss l
  | .alt l => ngroupss l
  | .rep d _ _ => ngroups d
  | .group _ d => ngroups d + 1
  | _ => 0
def ngroupss : List Nd → Nat
  | [] => 0
  | d :: ds => ngroups d + ngroupss ds
end
mutual
/-- Has it a Back? -/
def nbacks : Nd → Bool
  | .cat l => nbackss l
  | .alt l => nbackss l
  | .rep d _ _ => nbacks d
  | .group _ d => nbacks d
  | .back _ => true
  | _ => false
def nbackss : List Nd → Bool
  | [] => false
  | d :: ds => nbacks d || nbackss ds
end
mutual
/-- Are two the same? -/
def nsame : Nd → Nd → Bool
  | .empty, .empty => true
  | .one s, .one t => decide (s = t)
  | .cat l, .cat m => nsames l m
  | .alt l, .alt m => nsames l m
  | .rep d a b, .rep e a' b' => decide (a = a') && decide (b = b') && nsame d e
  | .group n d, .group m e => decide (n = m) && nsame d e
  | .back n, .back m => decide (n = m)
  | .start, .start => true
  | .fin, .fin => true
  | _, _ => false
def nsames : List Nd → List Nd → Bool
  | [], [] => true
  | d :: ds, e :: es => nsame d e && nsames ds es
  | _, _ => false
end
/-- May a node stand in a Cat, in an Alt, in a Rep? -/
def inCat : Nd → Bool
  | .empty => false
  | .cat _ => false
  | .alt _ => false
  | _ => true
def inAlt : Nd → Bool
  | .alt _ => false
  | _ => true
def inRep : Nd → Bool
  | .empty => false
  | .start => false
  | .fin => false
  | .cat _ => false
  | .alt _ => false
  | _ => true
/-- The bounds of a Rep. -/
def okRep (mn mx : Int) : Bool := decide (0 ≤ mn) && decide (mn ≤ 255) && (decide (mx = -1) || (decide (mn ≤ mx) && decide (mx ≤ 255)))
mutual
/-- Is a node right, when so many groups were opened, and these were closed? What was opened and closed then. -/
def nright : Nd → Int → List Int → Option (Int × List Int)
  | .cat l, o, c => if decide (2 ≤ l.length) && l.all inCat then nrights l o c else none
  | .alt l, o, c => if decide (2 ≤ l.length) && l.all inAlt then nrights l o c else none
  | .rep d mn mx, o, c => if okRep mn mx && inRep d then nright d o c else none
  | .group n d, o, c => if n = o + 1 then (nright d (o + 1) c).map fun r => (r.1, r.2 ++ [n]) else none
  | .back n, o, c => if c.contains n then some (o, c) else none
  | _, o, c => some (o, c)
def nrights : List Nd → Int → List Int → Option (Int × List Int)
  | [], o, c => some (o, c)
  | d :: ds, o, c => match nright d o c with
    | none => none
    | some r => nrights ds r.1 r.2
end

theorem canons_map (ps : List Tr) : canons ps = ps.map canon := by
  induction ps with
  | nil => rfl
  | cons t ts ih => rw [canons, ih]; rfl
theorem canon0_of (ps : List Tr) : canon0 ps = canon (ps.headD tz) := by
  cases ps with
  | nil => rfl
  | cons t ts => rfl
/-- The parts of the one are the parts of the other. -/
theorem canon_kids (t : Tr) : nkids (canon t) = (tkids t).map canon := by
  obtain ⟨k, s, mn, mx, num, ps⟩ := t
  by_cases h1 : k = 1
  · subst h1; rfl
  by_cases h2 : k = 2
  · subst h2; exact canons_map ps
  by_cases h3 : k = 3
  · subst h3; exact canons_map ps
  by_cases h4 : k = 4
  · subst h4; exact congrArg (fun x => [x]) (canon0_of ps)
  by_cases h5 : k = 5
  · subst h5; exact congrArg (fun x => [x]) (canon0_of ps)
  have hk : tkids (.mk k s mn mx num ps) = [] := by
    unfold tkids
    rw [if_neg (show ¬ ((Tr.mk k s mn mx num ps).kind = 2 ∨ (Tr.mk k s mn mx num ps).kind = 3) from fun h => h.elim h2 h3), if_neg (show ¬ ((Tr.mk k s mn mx num ps).kind = 4 ∨ (Tr.mk k s mn mx num ps).kind = 5) from fun h => h.elim h4 h5)]
  rw [hk]
  unfold canon
  rw [if_neg h1, if_neg h2, if_neg h3, if_neg h4, if_neg h5]
  by_cases h6 : k = 6
  · rw [if_pos h6]; rfl
  rw [if_neg h6]
  by_cases h7 : k = 7
  · rw [if_pos h7]; rfl
  rw [if_neg h7]
  by_cases h8 : k = 8
  · rw [if_pos h8]; rfl
  rw [if_neg h8]
  rfl
theorem nsize_kids (d : Nd) : nsize d = 1 + nsizes (nkids d) := by cases d <;> simp [nsize, nkids, nsizes]
theorem nsizes_append (a b : List Nd) : nsizes (a ++ b) = nsizes a + nsizes b := by
  induction a with
  | nil => simp [nsizes]
  | cons t ts ih => rw [List.cons_append, nsizes, nsizes, ih]; omega
theorem nsizes_take (ps : List Nd) (i : Nat) (h : i < ps.length) : nsizes (ps.take (i + 1)) = nsizes (ps.take i) + nsize ps[i] := by
  rw [List.take_succ_eq_append_getElem h, nsizes_append]
  simp [nsizes]
theorem nsizes_le (ps : List Nd) (i : Nat) : nsizes (ps.take i) ≤ nsizes ps := by
  have h := nsizes_append (ps.take i) (ps.drop i)
  rw [List.take_append_drop] at h
  omega
/-- Is it a Group, a Back? -/
def ngrp : Nd → Bool
  | .group _ _ => true
  | _ => false
def nbck : Nd → Bool
  | .back _ => true
  | _ => false
theorem canon_grp (t : Tr) : ngrp (canon t) = (t.kind == 5) := by
  obtain ⟨k, s, mn, mx, num, ps⟩ := t
  show ngrp (canon _) = (k == 5)
  unfold canon
  repeat (split; · simp_all [ngrp])
  simp_all [ngrp]
theorem canon_bck (t : Tr) : nbck (canon t) = (t.kind == 6) := by
  obtain ⟨k, s, mn, mx, num, ps⟩ := t
  show nbck (canon _) = (k == 6)
  unfold canon
  repeat (split; · simp_all [nbck])
  simp_all [nbck]
theorem ngroups_kids (d : Nd) : ngroups d = ngroupss (nkids d) + (if ngrp d then 1 else 0) := by cases d <;> simp [ngroups, nkids, ngroupss, ngrp]
theorem ndeep_kids (d : Nd) : ndeep d = ndeeps (nkids d) + (if ngrp d then 1 else 0) := by cases d <;> simp [ndeep, nkids, ndeeps, ngrp]
theorem nbacks_kids (d : Nd) : nbacks d = (nbackss (nkids d) || nbck d) := by cases d <;> simp [nbacks, nkids, nbackss, nbck]
theorem ngroupss_append (a b : List Nd) : ngroupss (a ++ b) = ngroupss a + ngroupss b := by
  induction a with
  | nil => simp [ngroupss]
  | cons t ts ih => rw [List.cons_append, ngroupss, ngroupss, ih]; omega
theorem ngroupss_take (ps : List Nd) (i : Nat) (h : i < ps.length) : ngroupss (ps.take (i + 1)) = ngroupss (ps.take i) + ngroups ps[i] := by
  rw [List.take_succ_eq_append_getElem h, ngroupss_append]
  simp [ngroupss]
theorem ngroupss_le (ps : List Nd) (i : Nat) : ngroupss (ps.take i) ≤ ngroupss ps := by
  have h := ngroupss_append (ps.take i) (ps.drop i)
  rw [List.take_append_drop] at h
  omega
theorem ndeeps_append (a b : List Nd) : ndeeps (a ++ b) = max (ndeeps a) (ndeeps b) := by
  induction a with
  | nil => simp [ndeeps]
  | cons t ts ih => rw [List.cons_append, ndeeps, ndeeps, ih]; omega
theorem ndeeps_take (ps : List Nd) (i : Nat) (h : i < ps.length) : ndeeps (ps.take (i + 1)) = max (ndeeps (ps.take i)) (ndeep ps[i]) := by
  rw [List.take_succ_eq_append_getElem h, ndeeps_append]
  simp [ndeeps]
theorem ndeeps_le (ps : List Nd) (i : Nat) : ndeeps (ps.take i) ≤ ndeeps ps := by
  have h := ndeeps_append (ps.take i) (ps.drop i)
  rw [List.take_append_drop] at h
  omega
theorem nbackss_append (a b : List Nd) : nbackss (a ++ b) = (nbackss a || nbackss b) := by
  induction a with
  | nil => simp [nbackss]
  | cons t ts ih => rw [List.cons_append, nbackss, nbackss, ih, Bool.or_assoc]
theorem nbackss_take (ps : List Nd) (i : Nat) (h : i < ps.length) : nbackss (ps.take (i + 1)) = (nbackss (ps.take i) || nbacks ps[i]) := by
  rw [List.take_succ_eq_append_getElem h, nbackss_append]
  simp [nbackss]
theorem nbackss_yes (ps : List Nd) (i : Nat) (h : nbackss (ps.take i) = true) : nbackss ps = true := by
  have h2 := nbackss_append (ps.take i) (ps.drop i)
  rw [List.take_append_drop] at h2
  rw [h2, h]
  rfl
theorem nsizes_length (ps : List Nd) : ps.length ≤ nsizes ps := by
  induction ps with
  | nil => simp [nsizes]
  | cons t ts ih => have := nsize_kids t; rw [nsizes, List.length_cons]; omega
theorem canon_1 (t : Tr) (h : t.kind = 1) : canon t = .one t.set := by
  obtain ⟨k, s, mn, mx, num, ps⟩ := t
  obtain rfl : k = 1 := h
  rfl
theorem canon_2 (t : Tr) (h : t.kind = 2) : canon t = .cat ((tkids t).map canon) := by
  obtain ⟨k, s, mn, mx, num, ps⟩ := t
  obtain rfl : k = 2 := h
  exact congrArg Nd.cat (canons_map ps)
theorem canon_3 (t : Tr) (h : t.kind = 3) : canon t = .alt ((tkids t).map canon) := by
  obtain ⟨k, s, mn, mx, num, ps⟩ := t
  obtain rfl : k = 3 := h
  exact congrArg Nd.alt (canons_map ps)
theorem canon_4 (t : Tr) (h : t.kind = 4) : canon t = .rep (canon (tof t)) t.mn t.mx ∧ tkids t = [tof t] := by
  obtain ⟨k, s, mn, mx, num, ps⟩ := t
  obtain rfl : k = 4 := h
  exact ⟨congrArg (fun x => Nd.rep x mn mx) (canon0_of ps), rfl⟩
theorem canon_5 (t : Tr) (h : t.kind = 5) : canon t = .group t.num (canon (tof t)) ∧ tkids t = [tof t] := by
  obtain ⟨k, s, mn, mx, num, ps⟩ := t
  obtain rfl : k = 5 := h
  exact ⟨congrArg (Nd.group num) (canon0_of ps), rfl⟩
theorem canon_6 (t : Tr) (h : t.kind = 6) : canon t = .back t.num := by
  obtain ⟨k, s, mn, mx, num, ps⟩ := t
  obtain rfl : k = 6 := h
  rfl
theorem canon_7 (t : Tr) (h : t.kind = 7) : canon t = .start := by
  obtain ⟨k, s, mn, mx, num, ps⟩ := t
  obtain rfl : k = 7 := h
  rfl
theorem canon_8 (t : Tr) (h : t.kind = 8) : canon t = .fin := by
  obtain ⟨k, s, mn, mx, num, ps⟩ := t
  obtain rfl : k = 8 := h
  rfl
theorem canon_0 (t : Tr) (h1 : t.kind ≠ 1) (h2 : t.kind ≠ 2) (h3 : t.kind ≠ 3) (h4 : t.kind ≠ 4) (h5 : t.kind ≠ 5) (h6 : t.kind ≠ 6) (h7 : t.kind ≠ 7) (h8 : t.kind ≠ 8) : canon t = .empty := by
  obtain ⟨k, s, mn, mx, num, ps⟩ := t
  simp only [Tr.kind] at h1 h2 h3 h4 h5 h6 h7 h8
  unfold canon
  rw [if_neg h1, if_neg h2, if_neg h3, if_neg h4, if_neg h5, if_neg h6, if_neg h7, if_neg h8]
mutual
/-- There are no more nodes than twice what there is. -/
theorem nsize_tall : ∀ t : Tr, nsize (canon t) ≤ 2 * tall t
  | .mk k s mn mx num ps => by
    have h1 := nsizes_talls ps
    have h2 := nsize0_talls ps
    rw [tall]
    unfold canon
    repeat (split; · simp only [nsize]; omega)
    simp only [nsize]; omega
theorem nsizes_talls : ∀ ps : List Tr, nsizes (canons ps) ≤ 2 * talls ps
  | [] => by simp [canons, nsizes]
  | t :: ts => by
    have h1 := nsize_tall t
    have h2 := nsizes_talls ts
    rw [canons, nsizes, talls]
    omega
theorem nsize0_talls : ∀ ps : List Tr, nsize (canon0 ps) ≤ 2 * talls ps + 1
  | [] => by simp [canon0, nsize]
  | t :: ts => by
    have h1 := nsize_tall t
    rw [canon0, talls]
    omega
end
mutual
theorem ngroups_size : ∀ d : Nd, ngroups d ≤ nsize d
  | .empty => by simp [ngroups]
  | .one _ => by simp [ngroups]
  | .cat l => by have := ngroupss_size l; simp only [ngroups, nsize]; omega
  | .alt l => by have := ngroupss_size l; simp only [ngroups, nsize]; omega
  | .rep d _ _ => by have := ngroups_size d; simp only [ngroups, nsize]; omega
  | .group _ d => by have := ngroups_size d; simp only [ngroups, nsize]; omega
  | .back _ => by simp [ngroups]
  | .start => by simp [ngroups]
  | .fin => by simp [ngroups]
theorem ngroupss_size : ∀ l : List Nd, ngroupss l ≤ nsizes l
  | [] => by simp [ngroupss]
  | d :: ds => by have := ngroups_size d; have := ngroupss_size ds; simp only [ngroupss, nsizes]; omega
end
mutual
theorem ndeep_size : ∀ d : Nd, ndeep d ≤ nsize d
  | .empty => by simp [ndeep]
  | .one _ => by simp [ndeep]
  | .cat l => by have := ndeeps_size l; simp only [ndeep, nsize]; omega
  | .alt l => by have := ndeeps_size l; simp only [ndeep, nsize]; omega
  | .rep d _ _ => by have := ndeep_size d; simp only [ndeep, nsize]; omega
  | .group _ d => by have := ndeep_size d; simp only [ndeep, nsize]; omega
  | .back _ => by simp [ndeep]
  | .start => by simp [ndeep]
  | .fin => by simp [ndeep]
theorem ndeeps_size : ∀ l : List Nd, ndeeps l ≤ nsizes l
  | [] => by simp [ndeeps]
  | d :: ds => by have := ndeep_size d; have := ndeeps_size ds; simp only [ndeeps, nsizes]; omega
end
/-- Whether two are the same, a level at a time. -/
def nhead : Nd → Nd → Bool
  | .empty, .empty => true
  | .one s, .one t => decide (s = t)
  | .cat _, .cat _ => true
  | .alt _, .alt _ => true
  | .rep _ a b, .rep _ a' b' => decide (a = a') && decide (b = b')
  | .group n _, .group m _ => decide (n = m)
  | .back n, .back m => decide (n = m)
  | .start, .start => true
  | .fin, .fin => true
  | _, _ => false
theorem nsame_kids (d e : Nd) : nsame d e = (nhead d e && nsames (nkids d) (nkids e)) := by
  cases d <;> cases e <;> simp [nsame, nhead, nkids, nsames]
theorem nsames_len (l m : List Nd) (h : l.length ≠ m.length) : nsames l m = false := by
  induction l generalizing m with
  | nil =>
    cases m with
    | nil => simp at h
    | cons e es => rfl
  | cons d ds ih =>
    cases m with
    | nil => rfl
    | cons e es => rw [nsames, ih es (by simpa using h), Bool.and_false]
theorem nsames_take (l m : List Nd) (hl : l.length = m.length) (i : Nat) (h : i < l.length) (h2 : i < m.length) : nsames (l.take (i + 1)) (m.take (i + 1)) = (nsames (l.take i) (m.take i) && nsame l[i] m[i]) := by
  induction l generalizing m i with
  | nil => simp at h
  | cons d ds ih =>
    cases m with
    | nil => simp at h2
    | cons e es =>
      cases i with
      | zero => simp [nsames]
      | succ i =>
        rw [List.take_succ_cons, List.take_succ_cons, List.take_succ_cons, List.take_succ_cons, nsames, nsames, ih es (by simpa using hl) i (by simpa using h) (by simpa using h2), Bool.and_assoc]
        rfl
theorem nsames_no (l m : List Nd) (i : Nat) (h : i < l.length) (h2 : i < m.length) (hn : nsame l[i] m[i] = false) : nsames l m = false := by
  induction l generalizing m i with
  | nil => simp at h
  | cons d ds ih =>
    cases m with
    | nil => rfl
    | cons e es =>
      rw [nsames]
      cases i with
      | zero => rw [show nsame d e = false from hn]; rfl
      | succ i => rw [ih es i (by simpa using h) (by simpa using h2) hn, Bool.and_false]
end Go.Proofs.YtnognicabhgmcaaDoor
namespace Go.Proofs.YtnognicabhgmcaaDoor

/-- What a part is worth in a Cat, in an Alt. -/
def jpart : Nd → List Nd
  | .empty => []
  | .cat l => l
  | d => [d]
def cpart : Nd → List Nd
  | .alt l => l
  | d => [d]
def jflat (l : List Nd) : List Nd := l.flatMap jpart
def cflat (l : List Nd) : List Nd := l.flatMap cpart
def njoin (l : List Nd) : Nd := match jflat l with
  | [] => .empty
  | [d] => d
  | ds => .cat ds
def nchoose (l : List Nd) : Nd := match cflat l with
  | [] => .empty
  | [d] => d
  | ds => .alt ds
theorem flat_take (f : Nd → List Nd) (l : List Nd) (k : Nat) (h : k < l.length) : (l.take (k + 1)).flatMap f = (l.take k).flatMap f ++ f l[k] := by
  rw [List.take_succ_eq_append_getElem h, List.flatMap_append]
  simp
theorem flat_le (f : Nd → List Nd) (l : List Nd) (k : Nat) : ((l.take k).flatMap f).length ≤ (l.flatMap f).length := by
  have h := congrArg List.length (congrArg (List.flatMap f) (List.take_append_drop k l))
  rw [List.flatMap_append, List.length_append] at h
  omega
theorem jpart_len (d : Nd) : (jpart d).length ≤ nsize d := by
  cases d with
  | cat l => have := nsizes_length l; simp only [jpart, nsize]; omega
  | _ => simp [jpart, nsize]
theorem cpart_len (d : Nd) : (cpart d).length ≤ nsize d := by
  cases d with
  | alt l => have := nsizes_length l; simp only [cpart, nsize]; omega
  | _ => simp [cpart, nsize]
theorem jflat_len (l : List Nd) : (jflat l).length ≤ nsizes l := by
  induction l with
  | nil => simp [jflat, nsizes]
  | cons d ds ih => have := jpart_len d; unfold jflat at *; rw [List.flatMap_cons, List.length_append, nsizes]; omega
theorem cflat_len (l : List Nd) : (cflat l).length ≤ nsizes l := by
  induction l with
  | nil => simp [cflat, nsizes]
  | cons d ds ih => have := cpart_len d; unfold cflat at *; rw [List.flatMap_cons, List.length_append, nsizes]; omega
end Go.Proofs.YtnognicabhgmcaaDoor
namespace Go.Proofs.YtnognicabhgmcaaDoor

/-- May a node stand where it does, behind groups that began, and perhaps ended? -/
def fitsM (d : Nd) (es : List Bool) : Bool := match d with
  | .cat l => decide (2 ≤ l.length) && l.all inCat
  | .alt l => decide (2 ≤ l.length) && l.all inAlt
  | .rep d mn mx => okRep mn mx && inRep d
  | .group n _ => decide (n = (es.length : Int) + 1)
  | .back n => decide (1 ≤ n) && decide (n ≤ es.length) && es.getD (n - 1).toNat false
  | _ => true
theorem all_any (p : Nd → Bool) (l : List Nd) : (!(l.any fun d => !p d)) = l.all p := by
  induction l with
  | nil => rfl
  | cons d ds ih => rw [List.any_cons, List.all_cons, ← ih]; cases p d <;> simp
end Go.Proofs.YtnognicabhgmcaaDoor
namespace Go.Proofs.YtnognicabhgmcaaDoor

mutual
/-- What comes of a node, and of nodes. -/
def evs : Nd → List (Nd × Bool)
  | .cat l => (.cat l, true) :: (evss l ++ [(.cat l, false)])
  | .alt l => (.alt l, true) :: (evss l ++ [(.alt l, false)])
  | .rep d a b => (.rep d a b, true) :: (evs d ++ [(.rep d a b, false)])
  | .group n d => (.group n d, true) :: (evs d ++ [(.group n d, false)])
  | .empty => [(.empty, true), (.empty, false)]
  | .one s => [(.one s, true), (.one s, false)]
  | .back n => [(.back n, true), (.back n, false)]
  | .start => [(.start, true), (.start, false)]
  | .fin => [(.fin, true), (.fin, false)]
def evss : List Nd → List (Nd × Bool)
  | [] => []
  | d :: ds => evs d ++ evss ds
end
theorem evs_kids (d : Nd) : evs d = (d, true) :: (evss (nkids d) ++ [(d, false)]) := by cases d <;> simp [evs, nkids, evss]
mutual
theorem evs_len : ∀ d : Nd, (evs d).length = 2 * nsize d
  | .cat l => by have := evss_len l; simp [evs, nsize, this]; omega
  | .alt l => by have := evss_len l; simp [evs, nsize, this]; omega
  | .rep d _ _ => by have := evs_len d; simp [evs, nsize, this]; omega
  | .group _ d => by have := evs_len d; simp [evs, nsize, this]; omega
  | .empty => rfl
  | .one _ => rfl
  | .back _ => rfl
  | .start => rfl
  | .fin => rfl
theorem evss_len : ∀ l : List Nd, (evss l).length = 2 * nsizes l
  | [] => rfl
  | d :: ds => by have := evs_len d; have := evss_len ds; simp [evss, nsizes, *]; omega
end
/-- What is still to come of open nodes, the innermost last. -/
def rem : List (Nd × List Nd) → List (Nd × Bool)
  | [] => []
  | x :: s => rem s ++ (evss x.2 ++ [(x.1, false)])
theorem rem_snoc (s : List (Nd × List Nd)) (d : Nd) (r : List Nd) : rem (s ++ [(d, r)]) = evss r ++ ((d, false) :: rem s) := by
  induction s with
  | nil => simp [rem]
  | cons x s ih => rw [List.cons_append, rem, ih, rem]; simp
theorem rem_len (s : List (Nd × List Nd)) : s.length ≤ (rem s).length := by
  induction s with
  | nil => simp
  | cons x s ih => rw [rem]; simp; omega
end Go.Proofs.YtnognicabhgmcaaDoor
namespace Go.Proofs.YtnognicabhgmcaaDoor

/-- A group's number. -/
def nnum : Nd → Int
  | .group n _ => n
  | _ => 0
inductive RS where
  | no
  | bad
  | ok (es : List Bool)
/-- An event: what groups began, and which ended. -/
def rs (s : RS) (x : Nd × Bool) : RS := match s with
  | .ok es => if x.2 then (if fitsM x.1 es then .ok (if ngrp x.1 then es ++ [false] else es) else .no)
    else if ngrp x.1 then (if 1 ≤ nnum x.1 ∧ nnum x.1 ≤ (es.length : Int) then .ok (es.set (nnum x.1 - 1).toNat true) else .bad) else .ok es
  | .no => .no
  | .bad => .bad
def rsf (s : RS) (l : List (Nd × Bool)) : RS := l.foldl rs s
theorem rsf_append (s : RS) (l m : List (Nd × Bool)) : rsf s (l ++ m) = rsf (rsf s l) m := by unfold rsf; rw [List.foldl_append]
theorem rsf_cons (s : RS) (x : Nd × Bool) (l : List (Nd × Bool)) : rsf s (x :: l) = rsf (rs s x) l := rfl
theorem rsf_snoc (s : RS) (l : List (Nd × Bool)) (x : Nd × Bool) : rsf s (l ++ [x]) = rs (rsf s l) x := by rw [rsf_append]; rfl
theorem rsf_no (l : List (Nd × Bool)) : rsf .no l = .no := by
  induction l with
  | nil => rfl
  | cons x l ih => rw [rsf_cons]; exact ih
theorem rsf_bad (l : List (Nd × Bool)) : rsf .bad l = .bad := by
  induction l with
  | nil => rfl
  | cons x l ih => rw [rsf_cons]; exact ih
/-- The two ways of telling which groups were opened and closed. -/
def RR (es : List Bool) (o : Int) (c : List Int) : Prop := o = (es.length : Int) ∧ ∀ n : Int, c.contains n = (decide (1 ≤ n) && decide (n ≤ (es.length : Int)) && es.getD (n - 1).toNat false)
def ROk (es : List Bool) (s : RS) (r : Option (Int × List Int)) : Prop := match r with
  | none => s = .no
  | some q => ∃ es', s = .ok es' ∧ RR es' q.1 q.2 ∧ es.length ≤ es'.length
theorem rok_refl {es : List Bool} {o : Int} {c : List Int} (h : RR es o c) : ROk es (.ok es) (some (o, c)) := ⟨es, rfl, h, Nat.le_refl _⟩
theorem rs_in_no {d : Nd} {es : List Bool} (h : fitsM d es = false) : rs (.ok es) (d, true) = .no := by simp [rs, h]
theorem rs_in {d : Nd} {es : List Bool} (h : fitsM d es = true) (hg : ngrp d = false) : rs (.ok es) (d, true) = .ok es := by simp [rs, h, hg]
theorem rs_out {d : Nd} (s : RS) (hg : ngrp d = false) : rs s (d, false) = s := by cases s <;> simp [rs, hg]
theorem rs_close {n : Int} {d : Nd} {es : List Bool} (h1 : 1 ≤ n) (h2 : n ≤ (es.length : Int)) : rs (.ok es) (.group n d, false) = .ok (es.set (n - 1).toNat true) := by simp [rs, ngrp, nnum, h1, h2]
theorem rr_open {es : List Bool} {o : Int} {c : List Int} (h : RR es o c) : RR (es ++ [false]) (o + 1) c := by
  obtain ⟨h1, h2⟩ := h
  refine ⟨by simp; omega, fun n => ?_⟩
  rw [h2 n]
  by_cases hn : n ≤ (es.length : Int)
  · by_cases hn1 : 1 ≤ n
    · rw [List.getD_eq_getElem?_getD, List.getD_eq_getElem?_getD, List.getElem?_append_left (by omega)]
      rw [decide_eq_true hn, decide_eq_true (show n ≤ ((es ++ [false]).length : Int) by simp; omega)]
    · simp [hn1]
  · by_cases hn1 : n = (es.length : Int) + 1
    · subst hn1
      simp
    · simp [hn]
      intro _ hh
      omega
theorem rr_close {es : List Bool} {o : Int} {c : List Int} (h : RR es o c) {n : Int} (h1 : 1 ≤ n) (h2 : n ≤ (es.length : Int)) : RR (es.set (n - 1).toNat true) o (c ++ [n]) := by
  obtain ⟨g1, g2⟩ := h
  refine ⟨by simpa using g1, fun m => ?_⟩
  have hc : (c ++ [n]).contains m = (c.contains m || (m == n)) := by
    simp
    rfl
  rw [hc, g2 m, List.length_set]
  by_cases hm : m = n
  · subst hm
    rw [decide_eq_true h1, decide_eq_true h2, @List.getD_eq_getElem?_getD _ (es.set (m - 1).toNat true), List.getElem?_set_self (by omega)]
    simp
  · have hne : (n - 1).toNat ≠ (m - 1).toNat ∨ ¬ 1 ≤ m := by omega
    rw [beq_eq_false_iff_ne.2 hm, Bool.or_false]
    rcases hne with hne | hne
    · rw [List.getD_eq_getElem?_getD, List.getD_eq_getElem?_getD, List.getElem?_set_ne hne]
    · simp [hne]
theorem rs_len (l : List (Nd × Bool)) : ∀ (es es' : List Bool), rsf (.ok es) l = .ok es' → es'.length ≤ es.length + l.length := by
  induction l with
  | nil => intro es es' h; cases h; simp
  | cons x l ih =>
    intro es es' h
    rw [rsf_cons] at h
    cases hs : rs (.ok es) x with
    | no => rw [hs, rsf_no] at h; cases h
    | bad => rw [hs, rsf_bad] at h; cases h
    | ok e2 =>
      rw [hs] at h
      have h1 := ih e2 es' h
      have h2 : e2.length ≤ es.length + 1 := by
        unfold rs at hs
        simp only at hs
        split at hs
        · split at hs
          · injection hs with hs
            subst hs
            split <;> simp
          · cases hs
        · split at hs
          · split at hs
            · injection hs with hs
              subst hs
              simp
            · cases hs
          · injection hs with hs
            subst hs
            simp
      simp
      omega
mutual
theorem evs_right : ∀ (d : Nd) (es : List Bool) (o : Int) (c : List Int), RR es o c → ROk es (rsf (.ok es) (evs d)) (nright d o c)
  | .cat l, es, o, c, h => by
    rw [evs, rsf_cons, rsf_append, nright]
    cases hf : decide (2 ≤ l.length) && l.all inCat
    · rw [rs_in_no (show fitsM (.cat l) es = false from hf), rsf_no, rsf_no]; rfl
    · rw [rs_in (show fitsM (.cat l) es = true from hf) rfl, rsf_cons, rs_out _ rfl]
      exact evss_right l es o c h
  | .alt l, es, o, c, h => by
    rw [evs, rsf_cons, rsf_append, nright]
    cases hf : decide (2 ≤ l.length) && l.all inAlt
    · rw [rs_in_no (show fitsM (.alt l) es = false from hf), rsf_no, rsf_no]; rfl
    · rw [rs_in (show fitsM (.alt l) es = true from hf) rfl, rsf_cons, rs_out _ rfl]
      exact evss_right l es o c h
  | .rep d mn mx, es, o, c, h => by
    rw [evs, rsf_cons, rsf_append, nright]
    cases hf : okRep mn mx && inRep d
    · rw [rs_in_no (show fitsM (.rep d mn mx) es = false from hf), rsf_no, rsf_no]; rfl
    · rw [rs_in (show fitsM (.rep d mn mx) es = true from hf) rfl, rsf_cons, rs_out _ rfl]
      exact evs_right d es o c h
  | .group n d, es, o, c, h => by
    rw [evs, rsf_cons, rsf_append, nright]
    by_cases hn : n = o + 1
    · rw [if_pos hn]
      have hf : fitsM (.group n d) es = true := decide_eq_true (by rw [hn, h.1])
      have hi : rs (.ok es) (.group n d, true) = .ok (es ++ [false]) := by simp [rs, hf, ngrp]
      rw [hi]
      have ih := evs_right d (es ++ [false]) (o + 1) c (rr_open h)
      cases hr : nright d (o + 1) c with
      | none =>
        rw [hr] at ih
        rw [show rsf (.ok (es ++ [false])) (evs d) = .no from ih, rsf_no]
        rfl
      | some q =>
        rw [hr] at ih
        obtain ⟨es', h1, h2, h3⟩ := ih
        rw [h1, rsf_cons]
        simp at h3
        have hlo : 1 ≤ n := by have := h.1; omega
        have hhi : n ≤ (es'.length : Int) := by have := h.1; omega
        have ho : rs (.ok es') (.group n d, false) = .ok (es'.set (n - 1).toNat true) := by simp [rs, ngrp, nnum, hlo, hhi]
        rw [ho]
        exact ⟨_, rfl, rr_close h2 hlo hhi, by rw [List.length_set]; omega⟩
    · rw [if_neg hn]
      have hf : fitsM (.group n d) es = false := decide_eq_false (by rw [← h.1]; exact hn)
      rw [rs_in_no hf, rsf_no, rsf_no]
      rfl
  | .back n, es, o, c, h => by
    rw [evs, rsf_cons, nright, h.2 n]
    cases hf : (decide (1 ≤ n) && decide (n ≤ (es.length : Int)) && es.getD (n - 1).toNat false)
    · rw [rs_in_no (show fitsM (.back n) es = false from hf), rsf_no]; rfl
    · rw [rs_in (show fitsM (.back n) es = true from hf) rfl, rsf_cons, rs_out _ rfl]
      exact rok_refl h
  | .empty, es, o, c, h => rok_refl h
  | .one _, es, o, c, h => rok_refl h
  | .start, es, o, c, h => rok_refl h
  | .fin, es, o, c, h => rok_refl h
theorem evss_right : ∀ (l : List Nd) (es : List Bool) (o : Int) (c : List Int), RR es o c → ROk es (rsf (.ok es) (evss l)) (nrights l o c)
  | [], es, o, c, h => rok_refl h
  | d :: ds, es, o, c, h => by
    rw [evss, rsf_append, nrights]
    have ih := evs_right d es o c h
    cases hr : nright d o c with
    | none =>
      rw [hr] at ih
      rw [show rsf (.ok es) (evs d) = .no from ih, rsf_no]
      rfl
    | some q =>
      rw [hr] at ih
      obtain ⟨es', h1, h2, h3⟩ := ih
      rw [h1]
      have ih2 := evss_right ds es' q.1 q.2 h2
      show ROk es _ (nrights ds q.1 q.2)
      cases hr2 : nrights ds q.1 q.2 with
      | none => rw [hr2] at ih2; exact ih2
      | some q2 =>
        rw [hr2] at ih2
        obtain ⟨es2, g1, g2, g3⟩ := ih2
        exact ⟨es2, g1, g2, Nat.le_trans h3 g3⟩
end
/-- Is a tree right? -/
def nrightB (d : Nd) : Bool := (nright d 0 []).isSome
theorem rr_nil : RR [] 0 [] := ⟨rfl, fun n => by
  by_cases h1 : 1 ≤ n
  · have h2 : decide (n ≤ (([] : List Bool).length : Int)) = false := decide_eq_false (by simp; omega)
    rw [h2]; simp
  · rw [decide_eq_false h1]; rfl⟩
theorem right_ok {d : Nd} {es : List Bool} (h : rsf (.ok []) (evs d) = .ok es) : nrightB d = true := by
  have := evs_right d [] 0 [] rr_nil
  unfold nrightB
  cases hr : nright d 0 [] with
  | none => rw [hr, h] at this; cases this
  | some q => rfl
theorem right_no {d : Nd} (h : rsf (.ok []) (evs d) = .no) : nrightB d = false := by
  have := evs_right d [] 0 [] rr_nil
  unfold nrightB
  cases hr : nright d 0 [] with
  | none => rfl
  | some q => rw [hr, h] at this; obtain ⟨_, h1, _⟩ := this; cases h1
theorem right_never_bad {d : Nd} : rsf (.ok []) (evs d) ≠ .bad := by
  have := evs_right d [] 0 [] rr_nil
  intro h
  cases hr : nright d 0 [] with
  | none => rw [hr, h] at this; cases this
  | some q => rw [hr, h] at this; obtain ⟨_, h1, _⟩ := this; cases h1
/-- Where a group ends it has begun. -/
theorem right_ends {root d : Nd} {pre : List (Nd × Bool)} {es : List Bool} (hs : ∃ suf, pre ++ (d, false) :: suf = evs root) (hp : rsf (.ok []) pre = .ok es) (hg : ngrp d = true) : 1 ≤ nnum d ∧ nnum d ≤ (es.length : Int) := by
  obtain ⟨suf, hs⟩ := hs
  by_cases h : 1 ≤ nnum d ∧ nnum d ≤ (es.length : Int)
  · exact h
  · exfalso
    refine right_never_bad (d := root) ?_
    rw [← hs, rsf_append, hp, rsf_cons]
    have : rs (.ok es) (d, false) = .bad := by simp only [rs, hg]; simp [h]
    rw [this, rsf_bad]
end Go.Proofs.YtnognicabhgmcaaDoor
namespace Go.Proofs.YtnognicabhgmcaaDoor

/-- Is a node's head right? -/
def nfit : Nd → Int → List Int → Bool
  | .cat l, _, _ => decide (2 ≤ l.length) && l.all inCat
  | .alt l, _, _ => decide (2 ≤ l.length) && l.all inAlt
  | .rep d mn mx, _, _ => okRep mn mx && inRep d
  | .group n _, o, _ => decide (n = o + 1)
  | .back n, _, c => c.contains n
  | _, _, _ => true
def nopen (d : Nd) (o : Int) : Int := if ngrp d then o + 1 else o
def nclose (d : Nd) (r : Int × List Int) : Int × List Int := if ngrp d then (r.1, r.2 ++ [nnum d]) else r
theorem nrights_one (d : Nd) (o : Int) (c : List Int) : nrights [d] o c = nright d o c := by
  rw [nrights]
  cases nright d o c with
  | none => rfl
  | some r => rfl
theorem nright_kids (d : Nd) (o : Int) (c : List Int) : nright d o c = if nfit d o c then (nrights (nkids d) (nopen d o) c).map (nclose d) else none := by
  have hid : ∀ d, ngrp d = false → ∀ x : Option (Int × List Int), x.map (nclose d) = x := by
    intro d hd x
    have : nclose d = id := by funext r; simp [nclose, hd]
    rw [this, Option.map_id]; rfl
  cases d with
  | empty => rfl
  | one s => rfl
  | cat l => rw [hid _ rfl]; rfl
  | alt l => rw [hid _ rfl]; rfl
  | rep d mn mx => rw [hid _ rfl]; show _ = if _ then nrights [d] o c else none; rw [nrights_one]; rfl
  | group n d =>
    show _ = if decide (n = o + 1) = true then (nrights [d] (o + 1) c).map _ else none
    rw [nrights_one, nright]
    by_cases h : n = o + 1
    · rw [if_pos h, if_pos (decide_eq_true h)]; rfl
    · rw [if_neg h, if_neg (by simpa using h)]
  | back n => rw [hid _ rfl]; rfl
  | start => rfl
  | fin => rfl
theorem nrights_append (l m : List Nd) (o : Int) (c : List Int) : nrights (l ++ m) o c = (nrights l o c).bind fun r => nrights m r.1 r.2 := by
  induction l generalizing o c with
  | nil => rfl
  | cons d ds ih =>
    rw [List.cons_append, nrights, nrights]
    cases nright d o c with
    | none => rfl
    | some r => exact ih r.1 r.2
theorem nrights_take (l : List Nd) (i : Nat) (h : i < l.length) (o : Int) (c : List Int) : nrights (l.take (i + 1)) o c = (nrights (l.take i) o c).bind fun r => nright l[i] r.1 r.2 := by
  rw [List.take_succ_eq_append_getElem h, nrights_append]
  congr 1
  funext r
  exact nrights_one _ _ _
theorem nrights_no (l : List Nd) (i : Nat) (o : Int) (c : List Int) (h : nrights (l.take i) o c = none) : nrights l o c = none := by
  have h2 := nrights_append (l.take i) (l.drop i) o c
  rw [List.take_append_drop, h] at h2
  exact h2
mutual
theorem nright_count : ∀ (d : Nd) (o : Int) (c : List Int) (r : Int × List Int), nright d o c = some r → r.1 = o + ngroups d ∧ r.2.length = c.length + ngroups d
  | .cat l, o, c, r, h => by
    rw [nright] at h
    split at h
    · rw [ngroups]; exact nrights_count l o c r h
    · cases h
  | .alt l, o, c, r, h => by
    rw [nright] at h
    split at h
    · rw [ngroups]; exact nrights_count l o c r h
    · cases h
  | .rep d mn mx, o, c, r, h => by
    rw [nright] at h
    split at h
    · rw [ngroups]; exact nright_count d o c r h
    · cases h
  | .group n d, o, c, r, h => by
    rw [nright] at h
    split at h
    · cases hd : nright d (o + 1) c with
      | none => rw [hd] at h; cases h
      | some q =>
        rw [hd] at h
        have h1 := nright_count d (o + 1) c q hd
        injection h with h
        subst h
        rw [ngroups]
        simp
        omega
    · cases h
  | .back n, o, c, r, h => by
    rw [nright] at h
    split at h
    · cases h; simp [ngroups]
    · cases h
  | .empty, o, c, r, h => by cases h; simp [ngroups]
  | .one _, o, c, r, h => by cases h; simp [ngroups]
  | .start, o, c, r, h => by cases h; simp [ngroups]
  | .fin, o, c, r, h => by cases h; simp [ngroups]
theorem nrights_count : ∀ (l : List Nd) (o : Int) (c : List Int) (r : Int × List Int), nrights l o c = some r → r.1 = o + ngroupss l ∧ r.2.length = c.length + ngroupss l
  | [], o, c, r, h => by cases h; simp [ngroupss]
  | d :: ds, o, c, r, h => by
    rw [nrights] at h
    cases hd : nright d o c with
    | none => rw [hd] at h; cases h
    | some q =>
      rw [hd] at h
      have h1 := nright_count d o c q hd
      have h2 := nrights_count ds q.1 q.2 r h
      rw [ngroupss]
      omega
end
/-- A known node's kind, where it stands. -/
theorem known_kind (t : Tr) (h : tknown t = true) : 0 ≤ t.kind ∧ t.kind ≤ 8 := by
  obtain ⟨k, s, mn, mx, num, ps⟩ := t
  rw [tknown] at h
  simp at h
  exact ⟨h.1.1, h.1.2⟩
theorem tknowns_mem (ps : List Tr) (h : tknowns ps = true) (i : Nat) (hi : i < ps.length) : tknown ps[i] = true := by
  cases hk : tknown ps[i] with
  | true => rfl
  | false => rw [tknowns_all ps i hi hk] at h; cases h
theorem known_kids (t : Tr) (h : tknown t = true) (i : Nat) (hi : i < (tkids t).length) : tknown (tkids t)[i] = true := by
  have hp : tknowns t.parts = true := by
    obtain ⟨k, s, mn, mx, num, ps⟩ := t
    rw [tknown] at h
    simp at h
    exact h.2
  by_cases h23 : t.kind = 2 ∨ t.kind = 3
  · have hk : tkids t = t.parts := by unfold tkids; rw [if_pos h23]
    simp only [hk]
    exact tknowns_mem _ hp i (by rw [← hk]; exact hi)
  · by_cases h45 : t.kind = 4 ∨ t.kind = 5
    · have hk : tkids t = [tof t] := by unfold tkids; rw [if_neg h23, if_pos h45]
      simp only [hk]
      have hi0 : i = 0 := by rw [hk] at hi; simpa using hi
      subst hi0
      show tknown (tof t) = true
      unfold tof
      cases hps : t.parts with
      | nil => rfl
      | cons x xs => rw [hps, tknowns] at hp; simp at hp; exact hp.1
    · exfalso
      have hk : tkids t = [] := by unfold tkids; rw [if_neg h23, if_neg h45]
      rw [hk] at hi
      simp at hi
theorem canon_cases (t : Tr) (h : tknown t = true) : (t.kind = 0 ∧ canon t = .empty) ∨ (t.kind = 1 ∧ ∃ s, canon t = .one s) ∨ (t.kind = 2 ∧ ∃ l, canon t = .cat l) ∨ (t.kind = 3 ∧ ∃ l, canon t = .alt l) ∨ (t.kind = 4 ∧ ∃ d a b, canon t = .rep d a b) ∨
    (t.kind = 5 ∧ ∃ n d, canon t = .group n d) ∨ (t.kind = 6 ∧ ∃ n, canon t = .back n) ∨ (t.kind = 7 ∧ canon t = .start) ∨ (t.kind = 8 ∧ canon t = .fin) := by
  have hk := known_kind t h
  rcases (show t.kind = 0 ∨ t.kind = 1 ∨ t.kind = 2 ∨ t.kind = 3 ∨ t.kind = 4 ∨ t.kind = 5 ∨ t.kind = 6 ∨ t.kind = 7 ∨ t.kind = 8 by omega) with h | h | h | h | h | h | h | h | h
  · exact .inl ⟨h, canon_0 t (by omega) (by omega) (by omega) (by omega) (by omega) (by omega) (by omega) (by omega)⟩
  · exact .inr (.inl ⟨h, _, canon_1 t h⟩)
  · exact .inr (.inr (.inl ⟨h, _, canon_2 t h⟩))
  · exact .inr (.inr (.inr (.inl ⟨h, _, canon_3 t h⟩)))
  · exact .inr (.inr (.inr (.inr (.inl ⟨h, _, _, _, (canon_4 t h).1⟩))))
  · exact .inr (.inr (.inr (.inr (.inr (.inl ⟨h, _, _, (canon_5 t h).1⟩)))))
  · exact .inr (.inr (.inr (.inr (.inr (.inr (.inl ⟨h, _, canon_6 t h⟩))))))
  · exact .inr (.inr (.inr (.inr (.inr (.inr (.inr (.inl ⟨h, canon_7 t h⟩)))))))
  · exact .inr (.inr (.inr (.inr (.inr (.inr (.inr (.inr ⟨h, canon_8 t h⟩)))))))
theorem canon_inCat (t : Tr) (h : tknown t = true) : inCat (canon t) = !((t.kind == 3) || ((t.kind == 0) || (t.kind == 2))) := by
  rcases canon_cases t h with ⟨h, e⟩ | ⟨h, _, e⟩ | ⟨h, _, e⟩ | ⟨h, _, e⟩ | ⟨h, _, _, _, e⟩ | ⟨h, _, _, e⟩ | ⟨h, _, e⟩ | ⟨h, e⟩ | ⟨h, e⟩ <;> rw [e, h] <;> rfl
theorem canon_inAlt (t : Tr) (h : tknown t = true) : inAlt (canon t) = !(t.kind == 3) := by
  rcases canon_cases t h with ⟨h, e⟩ | ⟨h, _, e⟩ | ⟨h, _, e⟩ | ⟨h, _, e⟩ | ⟨h, _, _, _, e⟩ | ⟨h, _, _, e⟩ | ⟨h, _, e⟩ | ⟨h, e⟩ | ⟨h, e⟩ <;> rw [e, h] <;> rfl
theorem canon_inRep (t : Tr) (h : tknown t = true) : inRep (canon t) = !((((((t.kind == 0) || (t.kind == 7)) || (t.kind == 8)) || (t.kind == 2))) || (t.kind == 3)) := by
  rcases canon_cases t h with ⟨h, e⟩ | ⟨h, _, e⟩ | ⟨h, _, e⟩ | ⟨h, _, e⟩ | ⟨h, _, _, _, e⟩ | ⟨h, _, _, e⟩ | ⟨h, _, e⟩ | ⟨h, e⟩ | ⟨h, e⟩ <;> rw [e, h] <;> rfl
theorem all_take {α : Type} (p : α → Bool) (l : List α) (i : Nat) (h : i < l.length) : (l.take (i + 1)).all p = ((l.take i).all p && p l[i]) := by
  rw [List.take_succ_eq_append_getElem h, List.all_append]
  simp
theorem all_no {α : Type} (p : α → Bool) (l : List α) (i : Nat) (h : i < l.length) (hp : p l[i] = false) : l.all p = false := by
  rw [← Bool.not_eq_true]
  intro ha
  have := List.all_eq_true.1 ha l[i] (List.getElem_mem h)
  rw [hp] at this
  cases this
theorem contains_take (c : List Int) (n : Int) (i : Nat) (h : i < c.length) : (c.take (i + 1)).contains n = ((c.take i).contains n || (c[i] == n)) := by
  rw [List.take_succ_eq_append_getElem h]
  generalize c.take i = l
  generalize c[i] = m
  cases hh : (l.contains n || (m == n)) with
  | true =>
    simp at hh
    simp
    rcases hh with h | h
    · exact .inl h
    · exact .inr h.symm
  | false =>
    simp at hh
    simp
    exact ⟨hh.1, fun e => hh.2 e.symm⟩
end Go.Proofs.YtnognicabhgmcaaDoor
namespace Go.Proofs.YtnognicabhgmcaaDoor

def mkCat : List Nd → Nd
  | [] => .empty
  | [d] => d
  | ds => .cat ds
def mkAlt : List Nd → Nd
  | [] => .empty
  | [d] => d
  | ds => .alt ds
theorem njoin_mk (l : List Nd) : njoin l = mkCat (jflat l) := by
  unfold njoin
  generalize jflat l = m
  match m with
  | [] => rfl
  | [d] => rfl
  | d :: e :: r => rfl
theorem nchoose_mk (l : List Nd) : nchoose l = mkAlt (cflat l) := by
  unfold nchoose
  generalize cflat l = m
  match m with
  | [] => rfl
  | [d] => rfl
  | d :: e :: r => rfl
theorem ngroups_join (l : List Nd) : ngroups (njoin l) = ngroupss (jflat l) := by
  unfold njoin
  split
  · rename_i h; rw [h]; rfl
  · rename_i h; rw [h]; simp [ngroupss]
  · rfl
theorem ngroups_choose (l : List Nd) : ngroups (nchoose l) = ngroupss (cflat l) := by
  unfold nchoose
  split
  · rename_i h; rw [h]; rfl
  · rename_i h; rw [h]; simp [ngroupss]
  · rfl
theorem ndeep_join (l : List Nd) : ndeep (njoin l) = ndeeps (jflat l) := by
  unfold njoin
  split
  · rename_i h; rw [h]; rfl
  · rename_i h; rw [h]; simp [ndeeps]
  · rfl
theorem ndeep_choose (l : List Nd) : ndeep (nchoose l) = ndeeps (cflat l) := by
  unfold nchoose
  split
  · rename_i h; rw [h]; rfl
  · rename_i h; rw [h]; simp [ndeeps]
  · rfl
theorem nbacks_join (l : List Nd) : nbacks (njoin l) = nbackss (jflat l) := by
  unfold njoin
  split
  · rename_i h; rw [h]; rfl
  · rename_i h; rw [h]; simp [nbackss]
  · rfl
theorem nbacks_choose (l : List Nd) : nbacks (nchoose l) = nbackss (cflat l) := by
  unfold nchoose
  split
  · rename_i h; rw [h]; rfl
  · rename_i h; rw [h]; simp [nbackss]
  · rfl
theorem jpart_groups (d : Nd) : ngroupss (jpart d) = ngroups d := by cases d <;> simp [jpart, ngroups, ngroupss]
theorem cpart_groups (d : Nd) : ngroupss (cpart d) = ngroups d := by cases d <;> simp [cpart, ngroups, ngroupss]
theorem jpart_deep (d : Nd) : ndeeps (jpart d) = ndeep d := by cases d <;> simp [jpart, ndeep, ndeeps]
theorem cpart_deep (d : Nd) : ndeeps (cpart d) = ndeep d := by cases d <;> simp [cpart, ndeep, ndeeps]
theorem jpart_backs (d : Nd) : nbackss (jpart d) = nbacks d := by cases d <;> simp [jpart, nbacks, nbackss]
theorem cpart_backs (d : Nd) : nbackss (cpart d) = nbacks d := by cases d <;> simp [cpart, nbacks, nbackss]
theorem jflat_two (d e : Nd) : jflat [d, e] = jpart d ++ jpart e := by simp [jflat]
theorem cflat_two (d e : Nd) : cflat [d, e] = cpart d ++ cpart e := by simp [cflat]
theorem join_two (d e : Nd) : ngroups (njoin [d, e]) = ngroups d + ngroups e ∧ nbacks (njoin [d, e]) = (nbacks d || nbacks e) ∧ ndeep (njoin [d, e]) = max (ndeep d) (ndeep e) := by
  rw [ngroups_join, nbacks_join, ndeep_join, jflat_two, ngroupss_append, nbackss_append, ndeeps_append, jpart_groups, jpart_groups, jpart_backs, jpart_backs, jpart_deep, jpart_deep]
  exact ⟨rfl, rfl, rfl⟩
theorem choose_two (d e : Nd) : ngroups (nchoose [d, e]) = ngroups d + ngroups e ∧ nbacks (nchoose [d, e]) = (nbacks d || nbacks e) ∧ ndeep (nchoose [d, e]) = max (ndeep d) (ndeep e) := by
  rw [ngroups_choose, nbacks_choose, ndeep_choose, cflat_two, ngroupss_append, nbackss_append, ndeeps_append, cpart_groups, cpart_groups, cpart_backs, cpart_backs, cpart_deep, cpart_deep]
  exact ⟨rfl, rfl, rfl⟩
theorem nsizes_jpart (d : Nd) : nsizes (jpart d) ≤ nsize d := by cases d <;> simp [jpart, nsize, nsizes]
theorem nsizes_cpart (d : Nd) : nsizes (cpart d) ≤ nsize d := by cases d <;> simp [cpart, nsize, nsizes]
theorem nsize_join (d e : Nd) : nsize (njoin [d, e]) ≤ 1 + (nsize d + nsize e) := by
  have h : nsize (njoin [d, e]) ≤ 1 + nsizes (jflat [d, e]) := by
    unfold njoin
    split
    · simp [nsize]
    · rename_i h; rw [h]; simp [nsizes]
    · simp [nsize]
  have h1 := nsizes_jpart d
  have h2 := nsizes_jpart e
  rw [jflat_two, nsizes_append] at h
  omega
theorem nsize_choose (d e : Nd) : nsize (nchoose [d, e]) ≤ 1 + (nsize d + nsize e) := by
  have h : nsize (nchoose [d, e]) ≤ 1 + nsizes (cflat [d, e]) := by
    unfold nchoose
    split
    · simp [nsize]
    · rename_i h; rw [h]; simp [nsizes]
    · simp [nsize]
  have h1 := nsizes_cpart d
  have h2 := nsizes_cpart e
  rw [cflat_two, nsizes_append] at h
  omega
mutual
theorem nsame_refl : ∀ d : Nd, nsame d d = true
  | .cat l => nsames_refl l
  | .alt l => nsames_refl l
  | .rep d a b => by simp [nsame, nsame_refl d]
  | .group n d => by simp [nsame, nsame_refl d]
  | .one s => by simp [nsame]
  | .back n => by simp [nsame]
  | .empty => rfl
  | .start => rfl
  | .fin => rfl
theorem nsames_refl : ∀ l : List Nd, nsames l l = true
  | [] => rfl
  | d :: ds => by rw [nsames, nsame_refl d, nsames_refl ds]; rfl
end
/-- What is right has parts that may stand in a Cat, in an Alt. -/
theorem right_jpart {d : Nd} (h : nrightB d = true) : ∀ x ∈ jpart d, jpart x = [x] := by
  intro x hx
  have hs : ∀ y, inCat y = true → jpart y = [y] := fun y hy => by cases y <;> first | rfl | cases hy
  cases d with
  | cat l =>
    have h2 : (nright (.cat l) 0 []).isSome = true := h
    rw [nright] at h2
    split at h2
    · rename_i hc
      rw [Bool.and_eq_true] at hc
      exact hs x (List.all_eq_true.1 hc.2 x hx)
    · cases h2
  | empty => cases hx
  | _ => obtain rfl := List.mem_singleton.1 hx; rfl
theorem right_cpart {d : Nd} (h : nrightB d = true) : ∀ x ∈ cpart d, cpart x = [x] := by
  intro x hx
  have hs : ∀ y, inAlt y = true → cpart y = [y] := fun y hy => by cases y <;> first | rfl | cases hy
  cases d with
  | alt l =>
    have h2 : (nright (.alt l) 0 []).isSome = true := h
    rw [nright] at h2
    split at h2
    · rename_i hc
      rw [Bool.and_eq_true] at hc
      exact hs x (List.all_eq_true.1 hc.2 x hx)
    · cases h2
  | _ => obtain rfl := List.mem_singleton.1 hx; rfl
theorem join_eq {d e : Nd} (h : nrightB d = true) (k : nrightB e = true) : njoin [njoin [d, e]] = njoin [d, e] := by
  have hm : ∀ x ∈ jflat [d, e], jpart x = [x] := by
    intro x hx
    rw [jflat_two] at hx
    exact (List.mem_append.1 hx).elim (right_jpart h x) (right_jpart k x)
  have hf : ∀ y, jflat [y] = jpart y := fun y => by simp [jflat]
  generalize hl : jflat [d, e] = l at hm
  rw [njoin_mk, njoin_mk, hf, hl]
  clear hl
  match l, hm with
  | [], _ => rfl
  | [x], hm =>
    have hx := hm x (List.mem_singleton.2 rfl)
    rw [show jpart (mkCat [x]) = [x] from hx]
  | x :: y :: r, _ => rfl
theorem join_again {d e : Nd} (h : nrightB d = true) (k : nrightB e = true) : nsame (njoin [njoin [d, e]]) (njoin [d, e]) = true := by
  rw [join_eq h k]
  exact nsame_refl _
theorem choose_eq {d e : Nd} (h : nrightB d = true) (k : nrightB e = true) : nchoose [nchoose [d, e]] = nchoose [d, e] := by
  have hm : ∀ x ∈ cflat [d, e], cpart x = [x] := by
    intro x hx
    rw [cflat_two] at hx
    exact (List.mem_append.1 hx).elim (right_cpart h x) (right_cpart k x)
  have hf : ∀ y, cflat [y] = cpart y := fun y => by simp [cflat]
  generalize hl : cflat [d, e] = l at hm
  rw [nchoose_mk, nchoose_mk, hf, hl]
  clear hl
  match l, hm with
  | [], _ => rfl
  | [x], hm =>
    have hx := hm x (List.mem_singleton.2 rfl)
    rw [show cpart (mkAlt [x]) = [x] from hx]
  | x :: y :: r, _ => rfl
theorem choose_again {d e : Nd} (h : nrightB d = true) (k : nrightB e = true) : nsame (nchoose [nchoose [d, e]]) (nchoose [d, e]) = true := by
  rw [choose_eq h k]
  exact nsame_refl _
end Go.Proofs.YtnognicabhgmcaaDoor
namespace Go.Proofs.YtnognicabhgmcaaDoor

/-- The sign of one byte, as UTF-8. -/
def wide1 (b : UInt8) : List UInt8 := if b.toNat < 128 then [b] else [UInt8.ofNat (192 + b.toNat / 64), UInt8.ofNat (128 + b.toNat % 64)]
def wideL (l : List UInt8) : List UInt8 := l.flatMap wide1
/-- The bytes of a wide text; none: it isn't one. -/
def narrowL : List UInt8 → Option (List UInt8)
  | [] => some []
  | [b] => if b.toNat < 128 then some [b] else none
  | b :: c :: r =>
    if b.toNat < 128 then (narrowL (c :: r)).map (b :: ·)
    else if (b.toNat = 194 ∨ b.toNat = 195) ∧ 128 ≤ c.toNat ∧ c.toNat < 192 then (narrowL r).map (UInt8.ofNat ((b.toNat - 192) * 64 + c.toNat - 128) :: ·)
    else none

theorem ofNat_self (b : UInt8) : UInt8.ofNat b.toNat = b := by simp
theorem ofNat_toNat (n : Nat) (h : n < 256) : (UInt8.ofNat n).toNat = n := by simp; omega

theorem narrow_low (b : UInt8) (l : List UInt8) (h : b.toNat < 128) : narrowL (b :: l) = (narrowL l).map (b :: ·) := by
  cases l with
  | nil => simp [narrowL, h]
  | cons c r => simp [narrowL, h]
theorem narrow_two (b c : UInt8) (l : List UInt8) (h : b.toNat = 194 ∨ b.toNat = 195) (h1 : 128 ≤ c.toNat) (h2 : c.toNat < 192) :
    narrowL (b :: c :: l) = (narrowL l).map (UInt8.ofNat ((b.toNat - 192) * 64 + c.toNat - 128) :: ·) := by
  have hb : ¬ b.toNat < 128 := by omega
  rw [narrowL, if_neg hb, if_pos ⟨h, h1, h2⟩]
theorem narrow_bad (b : UInt8) (l : List UInt8) (h : ¬ b.toNat < 128) (h2 : ∀ c r, l = c :: r → ¬ ((b.toNat = 194 ∨ b.toNat = 195) ∧ 128 ≤ c.toNat ∧ c.toNat < 192)) : narrowL (b :: l) = none := by
  cases l with
  | nil => simp [narrowL, h]
  | cons c r => rw [narrowL, if_neg h, if_neg (h2 c r rfl)]

theorem wideL_cons (b : UInt8) (l : List UInt8) : wideL (b :: l) = wide1 b ++ wideL l := by simp [wideL]
theorem wideL_snoc (l : List UInt8) (b : UInt8) : wideL (l ++ [b]) = wideL l ++ wide1 b := by simp [wideL]
theorem wide1_len (b : UInt8) : 1 ≤ (wide1 b).length ∧ (wide1 b).length ≤ 2 := by unfold wide1; split <;> simp
theorem wideL_len : ∀ l : List UInt8, (wideL l).length ≤ 2 * l.length
  | [] => by simp [wideL]
  | b :: l => by have h := wideL_len l; have := wide1_len b; rw [wideL_cons, List.length_append, List.length_cons]; omega

theorem narrow_wide : ∀ l : List UInt8, narrowL (wideL l) = some l
  | [] => rfl
  | b :: l => by
    have h := narrow_wide l
    rw [wideL_cons, wide1]
    have hb := b.toNat_lt
    by_cases hl : b.toNat < 128
    · rw [if_pos hl, List.cons_append, List.nil_append, narrow_low b _ hl, h]; rfl
    · rw [if_neg hl, List.cons_append, List.cons_append, List.nil_append]
      have e1 : (UInt8.ofNat (192 + b.toNat / 64)).toNat = 192 + b.toNat / 64 := ofNat_toNat _ (by omega)
      have e2 : (UInt8.ofNat (128 + b.toNat % 64)).toNat = 128 + b.toNat % 64 := ofNat_toNat _ (by omega)
      rw [narrow_two _ _ _ (by rw [e1]; omega) (by rw [e2]; omega) (by rw [e2]; omega), h, e1, e2]
      rw [show (192 + b.toNat / 64 - 192) * 64 + (128 + b.toNat % 64) - 128 = b.toNat by omega, ofNat_self]
      rfl

/-- What AppendRune lays for the rune of a byte. -/
theorem rune_byte : ∀ n : Fin 256, Lib.encodeRune (n.val : Int) = wide1 (UInt8.ofNat n.val) := by decide +kernel
theorem rune_wide (b : UInt8) : Lib.encodeRune (b.toNat : Int) = wide1 b := by
  have h := rune_byte ⟨b.toNat, b.toNat_lt⟩
  simp only [ofNat_self] at h
  exact h

set_option maxRecDepth 100000 in
/-- Decoding by the list's own bytes. -/
theorem getD_get (s : ByteArray) (i : Nat) : s.data.toList.getD i 0 = s.get! i := by
  cases s with
  | mk d =>
    show d.toList.getD i 0 = d[i]!
    by_cases h : i < d.size
    · rw [getElem!_pos d i h]; simp [List.getD, h]
    · rw [getElem!_neg d i h]; simp [List.getD, h]; rfl
theorem size_list (s : ByteArray) : s.size = s.data.toList.length := rfl
set_option maxRecDepth 100000 in
theorem decode_list (s : ByteArray) (pos : Nat) : Utf8.decode s pos = Lib.decodeN (s.data.toList.length - pos) (s.data.toList.getD pos 0).toNat (s.data.toList.getD (pos + 1) 0).toNat (s.data.toList.getD (pos + 2) 0).toNat (s.data.toList.getD (pos + 3) 0).toNat := by
  rw [Lib.decode_at, ← getD_get, ← getD_get, ← getD_get, ← getD_get, size_list]

theorem decodeN_low (n b c d e : Nat) (h : b < 128) : Lib.decodeN n b c d e = (b, 1) := by rw [Lib.decodeN, if_pos h]
theorem decodeN_two (n b c d e : Nat) (hn : 1 < n) (h : b = 194 ∨ b = 195) (h1 : 128 ≤ c) (h2 : c < 192) : Lib.decodeN n b c d e = ((b - 192) * 64 + c - 128, 2) := by
  rw [Lib.decodeN, if_neg (by omega), if_pos (by omega), if_pos (by omega)]
  refine Prod.ext ?_ rfl
  simp only
  omega
set_option maxRecDepth 100000 in
theorem decodeN_bad (n b c d e : Nat) (hb : b < 256) (hc : c < 256) (h : ¬ b < 128) (h2 : ¬ (1 < n ∧ (b = 194 ∨ b = 195) ∧ 128 ≤ c ∧ c < 192)) : 255 < (Lib.decodeN n b c d e).1 := by
  unfold Lib.decodeN
  rw [if_neg h]
  repeat' split
  all_goals (simp only; omega)

set_option maxRecDepth 100000 in
/-- One step of decoding, and of narrowing. -/
theorem narrow_step (s : ByteArray) (pos : Nat) (h : pos < s.size) :
    (255 < (Utf8.decode s pos).1 ∧ narrowL (s.data.toList.drop pos) = none) ∨
    ((Utf8.decode s pos).1 ≤ 255 ∧ 1 ≤ (Utf8.decode s pos).2 ∧ narrowL (s.data.toList.drop pos) = (narrowL (s.data.toList.drop (pos + (Utf8.decode s pos).2))).map (UInt8.ofNat (Utf8.decode s pos).1 :: ·)) := by
  rw [size_list] at h
  rw [decode_list]
  generalize hl : s.data.toList = l at h ⊢
  have hd : l.drop pos = l.getD pos 0 :: l.drop (pos + 1) := by rw [List.drop_eq_getElem_cons h]; simp [List.getD, h]
  have hb := (l.getD pos 0).toNat_lt
  have hc := (l.getD (pos + 1) 0).toNat_lt
  by_cases hlow : (l.getD pos 0).toNat < 128
  · right
    rw [decodeN_low _ _ _ _ _ hlow, hd, narrow_low _ _ hlow]
    simp only [ofNat_self]
    exact ⟨by omega, Nat.le_refl _, trivial⟩
  · by_cases h2 : 1 < l.length - pos ∧ ((l.getD pos 0).toNat = 194 ∨ (l.getD pos 0).toNat = 195) ∧ 128 ≤ (l.getD (pos + 1) 0).toNat ∧ (l.getD (pos + 1) 0).toNat < 192
    · right
      obtain ⟨a1, a2, a3, a4⟩ := h2
      have hd2 : l.drop (pos + 1) = l.getD (pos + 1) 0 :: l.drop (pos + 2) := by rw [List.drop_eq_getElem_cons (by omega)]; simp [List.getD, show pos + 1 < l.length by omega]
      rw [decodeN_two _ _ _ _ _ a1 a2 a3 a4, hd, hd2, narrow_two _ _ _ a2 a3 a4]
      exact ⟨by simp only; omega, by simp, rfl⟩
    · left
      refine ⟨decodeN_bad _ _ _ _ _ hb hc hlow h2, ?_⟩
      rw [hd]
      refine narrow_bad _ _ hlow fun c r hcr hh => h2 ?_
      have hlen : pos + 1 < l.length := by
        rcases Nat.lt_or_ge (pos + 1) l.length with hx | hx
        · exact hx
        · rw [List.drop_eq_nil_of_le hx] at hcr; cases hcr
      have hc2 : l.getD (pos + 1) 0 = c := by
        rw [List.drop_eq_getElem_cons hlen] at hcr
        simp only [List.cons.injEq] at hcr
        rw [← hcr.1]; simp [List.getD, hlen]
      rw [hc2]
      exact ⟨by omega, hh⟩

/-- The text of a list of bytes. -/
def txt (l : List UInt8) : ByteArray := ⟨l.toArray⟩
theorem txt_size (l : List UInt8) : (txt l).size = l.length := by simp [txt, ByteArray.size]
theorem txt_list (l : List UInt8) : (txt l).data.toList = l := rfl
theorem txt_append (a b : List UInt8) : txt a ++ txt b = txt (a ++ b) := by
  have h : (txt a ++ txt b).data = (txt (a ++ b)).data := by simp [txt]
  cases hx : txt a ++ txt b
  cases hy : txt (a ++ b)
  rw [hx, hy] at h
  simp only at h
  rw [h]
theorem txt_of (s : ByteArray) : txt s.data.toList = s := by cases s; rfl

set_option maxRecDepth 100000 in
/-- Decoding a wide text: the sign of the byte that stands there. -/
theorem decode_wide (a : List UInt8) (b : UInt8) (c : List UInt8) :
    Utf8.decode (txt (wideL a ++ (wide1 b ++ wideL c))) (wideL a).length = (b.toNat, (wide1 b).length) := by
  rw [decode_list, txt_list]
  have hb := b.toNat_lt
  have g : ∀ k, (wideL a ++ (wide1 b ++ wideL c)).getD ((wideL a).length + k) 0 = (wide1 b ++ wideL c).getD k 0 := by
    intro k
    simp only [List.getD]
    rw [List.getElem?_append_right (by omega), show (wideL a).length + k - (wideL a).length = k by omega]
  have g0 := g 0
  rw [Nat.add_zero] at g0
  rw [g0, g 1, g 2, g 3, List.length_append, List.length_append]
  unfold wide1
  by_cases hl : b.toNat < 128
  · rw [if_pos hl]
    simp only [List.cons_append, List.nil_append, List.getD_cons_zero]
    rw [decodeN_low _ _ _ _ _ hl]
    rfl
  · rw [if_neg hl]
    simp only [List.cons_append, List.nil_append, List.getD_cons_zero, List.getD_cons_succ, List.length_cons, List.length_nil]
    have e1 : (UInt8.ofNat (192 + b.toNat / 64)).toNat = 192 + b.toNat / 64 := ofNat_toNat _ (by omega)
    have e2 : (UInt8.ofNat (128 + b.toNat % 64)).toNat = 128 + b.toNat % 64 := ofNat_toNat _ (by omega)
    rw [decodeN_two _ _ _ _ _ (by omega) (by rw [e1]; omega) (by rw [e2]; omega) (by rw [e2]; omega), e1, e2]
    refine Prod.ext ?_ rfl
    simp only
    omega

end Go.Proofs.YtnognicabhgmcaaDoor
