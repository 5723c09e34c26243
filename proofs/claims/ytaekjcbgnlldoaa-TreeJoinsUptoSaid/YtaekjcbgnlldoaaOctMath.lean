/- Plain mathematics of sets of bytes: a set as 256 bits, its four words, its bits one by one. No program is named here. -/
import GoSem.Claim
import Derived.Laws.Bits64b
import Derived.Laws.Bits64
import Derived.Laws.BitsAllLaws
namespace Go.Proofs.Ytaekjcbgnlldoaa

/-- A set of bytes: bit number b says whether the byte b is in it. -/
abbrev OSet := BitVec 256

/-- Word number i of a set, as a number. -/
def owN (s : OSet) (i : Nat) : Nat := s.toNat / 2 ^ (64 * i) % 18446744073709551616
def ow (s : OSet) (i : Nat) : Int := (owN s i : Int)

theorem owN_lt (s : OSet) (i : Nat) : owN s i < 18446744073709551616 := Nat.mod_lt _ (by decide)
theorem ow_nonneg (s : OSet) (i : Nat) : 0 ≤ ow s i := Int.natCast_nonneg _
theorem ow_lt (s : OSet) (i : Nat) : ow s i < 18446744073709551616 := by have := owN_lt s i; unfold ow; omega

theorem owN_testBit (s : OSet) (i j : Nat) : (owN s i).testBit j = (decide (j < 64) && s.getLsbD (64 * i + j)) := by
  unfold owN
  rw [show (18446744073709551616 : Nat) = 2 ^ 64 from rfl, Nat.testBit_mod_two_pow, Nat.testBit_div_two_pow]
  rw [BitVec.getLsbD]
  congr 2
  omega

theorem owN_eq (s : OSet) (i n : Nat) (hn : n < 18446744073709551616) (h : ∀ j, j < 64 → n.testBit j = s.getLsbD (64 * i + j)) : n = owN s i := by
  refine Nat.eq_of_testBit_eq fun j => ?_
  rw [owN_testBit]
  by_cases hj : j < 64
  · rw [h j hj]; simp [hj]
  · rw [Nat.testBit_lt_two_pow (Nat.lt_of_lt_of_le hn (by rw [show (18446744073709551616 : Nat) = 2 ^ 64 from rfl]; exact Nat.pow_le_pow_right (by decide) (by omega)))]
    simp [hj]

/-- Sets whose four words are the same are the same. -/
theorem oset_ext {s t : OSet} (h : ∀ i, i < 4 → ow s i = ow t i) : s = t := by
  refine BitVec.eq_of_getLsbD_eq fun k hk => ?_
  have h1 : owN s (k / 64) = owN t (k / 64) := by
    have := h (k / 64) (by omega)
    unfold ow at this; omega
  have h2 := owN_testBit s (k / 64) (k % 64)
  have h3 := owN_testBit t (k / 64) (k % 64)
  rw [h1, h3] at h2
  have h4 : 64 * (k / 64) + k % 64 = k := by omega
  have h5 : k % 64 < 64 := by omega
  rw [h4] at h2
  simpa [h5] using h2.symm

theorem oset_ne {s t : OSet} (h : s ≠ t) : ¬ (ow s 0 = ow t 0 ∧ ow s 1 = ow t 1 ∧ ow s 2 = ow t 2 ∧ ow s 3 = ow t 3) := by
  intro ⟨h0, h1, h2, h3⟩
  refine h (oset_ext fun i hi => ?_)
  match i, hi with
  | 0, _ => exact h0
  | 1, _ => exact h1
  | 2, _ => exact h2
  | 3, _ => exact h3

/-- Any four words are those of a set. -/
theorem oset_of (a b c d : Int) (ha : 0 ≤ a) (ha' : a < 18446744073709551616) (hb : 0 ≤ b) (hb' : b < 18446744073709551616) (hc : 0 ≤ c) (hc' : c < 18446744073709551616) (hd : 0 ≤ d) (hd' : d < 18446744073709551616) :
    ∃ s : OSet, a = ow s 0 ∧ b = ow s 1 ∧ c = ow s 2 ∧ d = ow s 3 := by
  obtain ⟨a, rfl⟩ := Int.eq_ofNat_of_zero_le ha
  obtain ⟨b, rfl⟩ := Int.eq_ofNat_of_zero_le hb
  obtain ⟨c, rfl⟩ := Int.eq_ofNat_of_zero_le hc
  obtain ⟨d, rfl⟩ := Int.eq_ofNat_of_zero_le hd
  have hlt : a + b * 2 ^ 64 + c * 2 ^ 128 + d * 2 ^ 192 < 2 ^ 256 := by omega
  refine ⟨BitVec.ofNat 256 (a + b * 2 ^ 64 + c * 2 ^ 128 + d * 2 ^ 192), ?_, ?_, ?_, ?_⟩ <;>
    (unfold ow owN; rw [BitVec.toNat_ofNat, Nat.mod_eq_of_lt hlt]; simp only [Nat.mul_zero, Nat.mul_one, Nat.reduceMul, Nat.reducePow]; omega)

theorem owN_and (s t : OSet) (i : Nat) : owN s i &&& owN t i = owN (s &&& t) i := by
  refine owN_eq _ _ _ (Nat.lt_of_le_of_lt Nat.and_le_left (owN_lt s i)) fun j hj => ?_
  simp [Nat.testBit_and, owN_testBit, hj]

theorem owN_or (s t : OSet) (i : Nat) : owN s i ||| owN t i = owN (s ||| t) i := by
  refine owN_eq _ _ _ ?_ fun j hj => ?_
  · rw [show (18446744073709551616 : Nat) = 2 ^ 64 from rfl]
    exact Nat.or_lt_two_pow (owN_lt s i) (owN_lt t i)
  · simp [Nat.testBit_or, owN_testBit, hj]

theorem owN_not (s : OSet) (i : Nat) (hi : i < 4) : 18446744073709551615 - owN s i = owN (~~~s) i := by
  refine owN_eq _ _ _ (by omega) fun j hj => ?_
  have h := Nat.testBit_two_pow_sub_succ (n := 64) (owN_lt s i) j
  rw [show (2 : Nat) ^ 64 - (owN s i + 1) = 18446744073709551615 - owN s i by have := owN_lt s i; omega] at h
  rw [h, owN_testBit]
  have h256 : 64 * i + j < 256 := by omega
  simp [hj, h256]

theorem bits_and_ow (s t : OSet) (i : Nat) : bits .and .u64 (ow s i) (ow t i) = ow (s &&& t) i := by
  unfold ow
  rw [bits_and_u64_nat _ _ (owN_lt s i) (owN_lt t i), owN_and]

theorem bits_or_ow (s t : OSet) (i : Nat) : bits .or .u64 (ow s i) (ow t i) = ow (s ||| t) i := by
  unfold ow
  rw [bits_or_u64_nat _ _ (owN_lt s i) (owN_lt t i), owN_or]

theorem xor_max (n : Nat) (h : n < 18446744073709551616) : 18446744073709551615 ^^^ n = 18446744073709551615 - n := by
  refine Nat.eq_of_testBit_eq fun j => ?_
  have h2 := Nat.testBit_two_pow_sub_succ (n := 64) h j
  rw [show (2 : Nat) ^ 64 - (n + 1) = 18446744073709551615 - n by omega] at h2
  rw [h2, Nat.testBit_xor, show (18446744073709551615 : Nat) = 2 ^ 64 - 1 from rfl, Nat.testBit_two_pow_sub_one]
  by_cases hj : j < 64
  · simp [hj]
  · rw [Nat.testBit_lt_two_pow (Nat.lt_of_lt_of_le h (by rw [show (18446744073709551616 : Nat) = 2 ^ 64 from rfl]; exact Nat.pow_le_pow_right (by decide) (by omega)))]
    simp [hj]

theorem bits_not_ow (s : OSet) (i : Nat) (hi : i < 4) : bits .xor .u64 18446744073709551615 (ow s i) = ow (~~~s) i := by
  unfold ow
  have h := bits_xor_u64_nat 18446744073709551615 (owN s i) (by decide) (owN_lt s i)
  rw [xor_max _ (owN_lt s i), owN_not s i hi] at h
  exact h

/-- Is byte x in the set? -/
def ohas (s : OSet) (x : Nat) : Bool := s.getLsbD x
/-- The set of one byte. -/
def obit (x : Nat) : OSet := BitVec.ofNat 256 (2 ^ x)

theorem obit_get (x y : Nat) (hx : x < 256) : (obit x).getLsbD y = decide (x = y) := by
  unfold obit
  rw [BitVec.getLsbD_ofNat, Nat.testBit_two_pow]
  by_cases h : x = y
  · subst h; simp [hx]
  · simp [h]

theorem ow_div (s : OSet) (i j : Nat) (hj : j < 64) : owN s i / 2 ^ j % 2 = (s.getLsbD (64 * i + j)).toNat := by
  have h := owN_testBit s i j
  rw [Nat.testBit_eq_decide_div_mod_eq] at h
  simp only [hj, decide_true, Bool.true_and] at h
  have h2 : owN s i / 2 ^ j % 2 = 0 ∨ owN s i / 2 ^ j % 2 = 1 := by omega
  rcases h2 with h2 | h2
  · rw [h2] at h; rw [h2, ← h]; simp
  · rw [h2] at h; rw [h2, ← h]; simp

/-- What the code asks of a word for one byte. -/
theorem has_word (s : OSet) (i : Nat) (x : Int) (h0 : 0 ≤ x) (h1 : x ≤ 255) (hi : x / 64 = i) : (ow s i / 2 ^ (x % 64).toNat) % 2 = if ohas s x.toNat then 1 else 0 := by
  obtain ⟨n, rfl⟩ := Int.eq_ofNat_of_zero_le h0
  have e1 : ((n : Int) % 64).toNat = n % 64 := by omega
  have e2 : 64 * i + n % 64 = n := by omega
  have h := ow_div s i (n % 64) (by omega)
  rw [e2] at h
  rw [e1, Int.toNat_natCast]
  unfold ow ohas
  have e3 : ((owN s i : Int) / 2 ^ (n % 64) % 2) = ((owN s i / 2 ^ (n % 64) % 2 : Nat) : Int) := by simp
  rw [e3, h]
  cases s.getLsbD n <;> simp

theorem has_div_nonneg (s : OSet) (i k : Nat) : 0 ≤ ow s i / 2 ^ k := Int.ediv_nonneg (ow_nonneg s i) (by exact_mod_cast Nat.zero_le _)
theorem has_div_lt (s : OSet) (i k : Nat) : ow s i / 2 ^ k < 18446744073709551616 := by
  refine Int.lt_of_le_of_lt ?_ (ow_lt s i)
  exact Int.ediv_le_self _ (ow_nonneg s i)

theorem has_and (s : OSet) (i : Nat) (x : Int) (h0 : 0 ≤ x) (h1 : x ≤ 255) (hi : x / 64 = i) : (bits .and .u64 (ow s i / 2 ^ (x % 64).toNat) 1 == 1) = ohas s x.toNat := by
  have h2 := has_div_nonneg s i (x % 64).toNat
  have h3 := has_div_lt s i (x % 64).toNat
  have h := bits_and_u64_nat (ow s i / 2 ^ (x % 64).toNat).toNat 1 (by omega) (by omega)
  rw [Nat.and_one_is_mod, Int.toNat_of_nonneg h2] at h
  have h4 := has_word s i x h0 h1 hi
  have h5 : (((ow s i / 2 ^ (x % 64).toNat).toNat % 2 : Nat) : Int) = (ow s i / 2 ^ (x % 64).toNat) % 2 := by omega
  rw [show ((1 : Nat) : Int) = 1 from rfl] at h
  rw [h, h5, h4]
  cases ohas s x.toNat <;> rfl

theorem has_mod (s : OSet) (i : Nat) (x : Int) (h0 : 0 ≤ x) (h1 : x ≤ 255) (hi : x / 64 = i) : ((ow s i / 2 ^ (x % 64).toNat) % 2 == 1) = ohas s x.toNat := by
  rw [has_word s i x h0 h1 hi]
  cases ohas s x.toNat <;> rfl

/-- One byte more, word by word. -/
theorem owN_bit (s : OSet) (i x : Nat) (hx : x < 256) (hi : x / 64 = i) : owN s i ||| 2 ^ (x % 64) = owN (s ||| obit x) i := by
  have hp : 2 ^ (x % 64) < 2 ^ 64 := Nat.pow_lt_pow_right (by decide) (by omega)
  refine owN_eq _ _ _ ?_ fun j hj => ?_
  · rw [show (18446744073709551616 : Nat) = 2 ^ 64 from rfl]
    exact Nat.or_lt_two_pow (owN_lt s i) hp
  · rw [Nat.testBit_or, owN_testBit, BitVec.getLsbD_or, obit_get _ _ hx, Nat.testBit_two_pow]
    simp only [hj, decide_true, Bool.true_and]
    congr 1
    exact decide_eq_decide.2 (by omega)

theorem owN_bit_other (s : OSet) (i x : Nat) (hx : x < 256) (hi : x / 64 ≠ i) : owN s i = owN (s ||| obit x) i := by
  refine owN_eq _ _ _ (owN_lt s i) fun j hj => ?_
  rw [owN_testBit, BitVec.getLsbD_or, obit_get _ _ hx]
  have : x ≠ 64 * i + j := by omega
  simp [hj, this]

theorem bits_add_ow (s : OSet) (i : Nat) (x : Int) (h0 : 0 ≤ x) (h1 : x ≤ 255) (hi : x / 64 = i) : bits .or .u64 (ow s i) (2 ^ (x % 64).toNat) = ow (s ||| obit x.toNat) i := by
  obtain ⟨n, rfl⟩ := Int.eq_ofNat_of_zero_le h0
  have e1 : ((n : Int) % 64).toNat = n % 64 := by omega
  have hp : 2 ^ (n % 64) < 2 ^ 64 := Nat.pow_lt_pow_right (by decide) (by omega)
  have h := bits_or_u64_nat (owN s i) (2 ^ (n % 64)) (owN_lt s i) hp
  rw [owN_bit s i n (by omega) (by omega)] at h
  rw [e1, Int.toNat_natCast]
  unfold ow
  rw [← h]
  simp

theorem ow_other (s : OSet) (i : Nat) (x : Int) (h0 : 0 ≤ x) (h1 : x ≤ 255) (hi : x / 64 ≠ i) : ow (s ||| obit x.toNat) i = ow s i := by
  unfold ow
  rw [← owN_bit_other s i x.toNat (by omega) (by omega)]

/-- The empty set. -/
def oz : OSet := 0
theorem ow_zero (i : Nat) : ow oz i = 0 := by simp [oz, ow, owN]

/-- The set of some bytes, of a list; of the bytes from one on, so many; from one to another one. -/
def ofl (zs : List Int) : OSet := zs.foldl (fun s x => s ||| obit x.toNat) oz
def ospan (lo : Nat) : Nat → OSet
  | 0 => oz
  | n + 1 => ospan lo n ||| obit (lo + n)
def oSpan (lo hi : Int) : OSet := ospan lo.toNat (hi - lo + 1).toNat

theorem ofl_nil : ofl [] = oz := rfl
theorem ofl_snoc (zs : List Int) (k : Nat) (h : k < zs.length) : ofl (zs.take (k + 1)) = ofl (zs.take k) ||| obit (zs.getD k 0).toNat := by
  unfold ofl
  rw [List.take_succ_eq_append_getElem h, List.foldl_append]
  simp [List.getD, List.getElem?_eq_getElem h]

end Go.Proofs.Ytaekjcbgnlldoaa
