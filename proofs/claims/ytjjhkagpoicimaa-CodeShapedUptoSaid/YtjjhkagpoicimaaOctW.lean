/- OctPop: Plain mathematics: how many bits of a word are 1, as math/bits counts them.
   OctWalkA: Contracts of the small calls on sets: Has, And, Or, Not (of octet and of the document's own answers), With, add.
   OctWalkB: Contracts of the calls on sets that go in rounds: Of, Span, OnesCount64, Len, and the document's own Span and Len.
   OctClass: Contracts of the classes: octet's and the document's. -/
import Derived.Test.YtjjhkagpoicimaaMaA
import Derived.Laws.Bits128
import Derived.Test.YtjjhkagpoicimaaRows
import Derived.WalkKit
import Derived.WalkSpells
import Derived.WalkLawsBesides
import Derived.BigRegion
import Derived.Lib.Hide
import Derived.Test.YtjjhkagpoicimaaMaB
namespace Go.Proofs.Ytjjhkagpoicimaa

/-- How many of the lowest k bits of n are 1. -/
def popc : Nat → Nat → Nat
  | 0, _ => 0
  | k + 1, n => popc k n + (n.testBit k).toNat

theorem popc_le : ∀ (k n : Nat), popc k n ≤ k
  | 0, _ => Nat.le_refl _
  | k + 1, n => by
    have h := popc_le k n
    unfold popc
    cases n.testBit k <;> simp <;> omega

theorem popc_mod (n : Nat) : ∀ k, k ≤ 8 → popc k n = popc k (n % 256)
  | 0, _ => rfl
  | k + 1, hk => by
    have h := popc_mod n k (by omega)
    unfold popc
    rw [← h, show (256 : Nat) = 2 ^ 8 from rfl, Nat.testBit_mod_two_pow]
    have : k < 8 := by omega
    simp [this]

theorem popc_split (n : Nat) : ∀ k, popc (k + 8) n = popc k (n / 256) + popc 8 (n % 256)
  | 0 => by simp only [Nat.zero_add, popc_mod n 8 (Nat.le_refl _)]; rw [show popc 0 (n / 256) = 0 from rfl]; omega
  | k + 1 => by
    have h := popc_split n k
    rw [show k + 1 + 8 = (k + 8) + 1 by omega]
    rw [show popc (k + 8 + 1) n = popc (k + 8) n + (n.testBit (k + 8)).toNat from rfl, h]
    rw [show popc (k + 1) (n / 256) = popc k (n / 256) + ((n / 256).testBit k).toNat from rfl]
    rw [show (256 : Nat) = 2 ^ 8 from rfl, Nat.testBit_div_two_pow]
    omega

/-- A function of bytes, byte by byte. -/
def bm (f : Nat → Nat) : Nat → Nat → Nat
  | 0, _ => 0
  | k + 1, x => f (x % 256) + 256 * bm f k (x / 256)
/-- A byte, k times. -/
def rep (c : Nat) : Nat → Nat
  | 0 => 0
  | k + 1 => c + 256 * rep c k

theorem and_split (x c m : Nat) (hc : c < 256) : x &&& (c + 256 * m) = ((x % 256) &&& c) + 256 * ((x / 256) &&& m) := by
  have h1 : (x &&& (c + 256 * m)) % 256 = (x % 256) &&& c := by
    rw [show (256 : Nat) = 2 ^ 8 from rfl, Nat.and_mod_two_pow]
    congr 1
    omega
  have h2 : (x &&& (c + 256 * m)) / 256 = (x / 256) &&& m := by
    rw [show (256 : Nat) = 2 ^ 8 from rfl, Nat.and_div_two_pow]
    congr 1
    omega
  omega

def f1 (b : Nat) : Nat := (b / 2 &&& 85) + (b &&& 85)
def f2 (b : Nat) : Nat := (b / 4 &&& 51) + (b &&& 51)
def f3 (b : Nat) : Nat := b / 16 + b % 16

theorem f1_high : ∀ c : Fin 2, ∀ b : Fin 256, (b.val / 2 + 128 * c.val) &&& 85 = b.val / 2 &&& 85 := by decide +kernel
theorem f2_high : ∀ c : Fin 4, ∀ b : Fin 256, (b.val / 4 + 64 * c.val) &&& 51 = b.val / 4 &&& 51 := by decide +kernel
theorem f_lt : ∀ b : Fin 256, f1 b.val < 256 ∧ f2 (f1 b.val) < 256 ∧ f2 (f1 b.val) / 16 ≤ 4 ∧ f2 (f1 b.val) % 16 ≤ 4 ∧ f3 (f2 (f1 b.val)) = popc 8 b.val := by decide +kernel
theorem and15 : ∀ c : Fin 256, c.val &&& 15 = c.val % 16 := by decide +kernel

theorem step1 : ∀ k x, (x / 2 &&& rep 85 k) + (x &&& rep 85 k) = bm f1 k x
  | 0, x => by simp [rep, bm]
  | k + 1, x => by
    have h := step1 k (x / 256)
    have hc := f1_high ⟨x / 256 % 2, by omega⟩ ⟨x % 256, by omega⟩
    simp only at hc
    rw [rep, and_split _ _ _ (by decide), and_split _ _ _ (by decide), bm, ← h, f1]
    rw [show x / 2 % 256 = x % 256 / 2 + 128 * (x / 256 % 2) by omega, hc, show x / 2 / 256 = x / 256 / 2 by omega]
    omega

theorem step2 : ∀ k x, (x / 4 &&& rep 51 k) + (x &&& rep 51 k) = bm f2 k x
  | 0, x => by simp [rep, bm]
  | k + 1, x => by
    have h := step2 k (x / 256)
    have hc := f2_high ⟨x / 256 % 4, by omega⟩ ⟨x % 256, by omega⟩
    simp only at hc
    rw [rep, and_split _ _ _ (by decide), and_split _ _ _ (by decide), bm, ← h, f2]
    rw [show x / 4 % 256 = x % 256 / 4 + 64 * (x / 256 % 4) by omega, hc, show x / 4 / 256 = x / 256 / 4 by omega]
    omega

/-- Every nibble of the k lowest bytes is at most 4, and there is no other byte. -/
def nib : Nat → Nat → Prop
  | 0, x => x = 0
  | k + 1, x => x % 256 / 16 ≤ 4 ∧ x % 16 ≤ 4 ∧ nib k (x / 256)

theorem nib_low : ∀ k x, nib k x → x % 16 ≤ 4
  | 0, x, h => by rw [nib] at h; omega
  | _ + 1, _, h => h.2.1

theorem step3 : ∀ k x, nib k x → (x / 16 + x) &&& rep 15 k = bm f3 k x
  | 0, x, _ => by simp [rep, bm]
  | k + 1, x, hx => by
    obtain ⟨h1, h2, h3⟩ := hx
    have h := step3 k (x / 256) h3
    have h4 := nib_low k (x / 256) h3
    have e1 : (x / 16 + x) % 256 = x % 256 / 16 + 16 * (x / 256 % 16) + x % 256 := by omega
    have e2 : (x / 16 + x) / 256 = x / 256 / 16 + x / 256 := by omega
    have hc := and15 ⟨x % 256 / 16 + 16 * (x / 256 % 16) + x % 256, by omega⟩
    simp only at hc
    rw [rep, and_split _ _ _ (by decide), bm, ← h, f3, e1, e2, hc]
    omega

theorem bm_lt (f : Nat → Nat) (hf : ∀ b, b < 256 → f b < 256) : ∀ k x, bm f k x < 256 ^ k
  | 0, x => by simp [bm]
  | k + 1, x => by
    have h := bm_lt f hf k (x / 256)
    have h2 := hf (x % 256) (by omega)
    rw [bm, Nat.pow_succ]
    omega

theorem bm_bm (f g : Nat → Nat) (hf : ∀ b, b < 256 → f b < 256) : ∀ k x, bm g k (bm f k x) = bm (fun b => g (f b)) k x
  | 0, x => rfl
  | k + 1, x => by
    have h := bm_bm f g hf k (x / 256)
    have h2 := hf (x % 256) (by omega)
    rw [show bm f (k + 1) x = f (x % 256) + 256 * bm f k (x / 256) from rfl]
    rw [bm, bm, show (f (x % 256) + 256 * bm f k (x / 256)) % 256 = f (x % 256) by omega, show (f (x % 256) + 256 * bm f k (x / 256)) / 256 = bm f k (x / 256) by omega, h]

theorem bm_nib : ∀ k x, nib k (bm (fun b => f2 (f1 b)) k x)
  | 0, _ => rfl
  | k + 1, x => by
    have h := bm_nib k (x / 256)
    obtain ⟨_, h2, h3, h4, _⟩ := f_lt ⟨x % 256, by omega⟩
    simp only at h2 h3 h4
    rw [bm, nib]
    rw [show (f2 (f1 (x % 256)) + 256 * bm (fun b => f2 (f1 b)) k (x / 256)) / 256 = bm (fun b => f2 (f1 b)) k (x / 256) by omega]
    exact ⟨by omega, by omega, h⟩

theorem bm_congr (f g : Nat → Nat) (h : ∀ b, b < 256 → f b = g b) : ∀ k x, bm f k x = bm g k x
  | 0, _ => rfl
  | k + 1, x => by rw [bm, bm, bm_congr f g h k, h _ (by omega)]

/-- The three steps that leave in each byte how many of its bits are 1. -/
def popY (n : Nat) : Nat := bm f1 8 n
def popZ (n : Nat) : Nat := bm (fun b => f2 (f1 b)) 8 n
def popT (n : Nat) : Nat := bm (popc 8) 8 n
def popU (n : Nat) : Nat := popT n + popT n / 256
def popV (n : Nat) : Nat := popU n + popU n / 65536
def popW (n : Nat) : Nat := popV n + popV n / 4294967296

theorem popY_lt (n : Nat) : popY n < 18446744073709551616 := bm_lt f1 (fun b h => (f_lt ⟨b, h⟩).1) 8 n
theorem popZ_lt (n : Nat) : popZ n < 4919131752989213765 := by
  have h := bm_nib 8 n
  show bm (fun b => f2 (f1 b)) 8 n < _
  generalize bm (fun b => f2 (f1 b)) 8 n = z at h
  simp only [nib] at h
  omega
theorem popT_eq (n : Nat) : ∃ a b c d e f g h : Nat, a ≤ 8 ∧ b ≤ 8 ∧ c ≤ 8 ∧ d ≤ 8 ∧ e ≤ 8 ∧ f ≤ 8 ∧ g ≤ 8 ∧ h ≤ 8 ∧ popc 64 n = a + b + c + d + e + f + g + h ∧
    popT n = a + 256 * b + 65536 * c + 16777216 * d + 4294967296 * e + 1099511627776 * f + 281474976710656 * g + 72057594037927936 * h := by
  refine ⟨_, _, _, _, _, _, _, _, popc_le 8 (n % 256), popc_le 8 (n / 256 % 256), popc_le 8 (n / 256 / 256 % 256), popc_le 8 (n / 256 / 256 / 256 % 256), popc_le 8 (n / 256 / 256 / 256 / 256 % 256), popc_le 8 (n / 256 / 256 / 256 / 256 / 256 % 256), popc_le 8 (n / 256 / 256 / 256 / 256 / 256 / 256 % 256), popc_le 8 (n / 256 / 256 / 256 / 256 / 256 / 256 / 256 % 256), ?_, ?_⟩
  · rw [popc_split n 56, popc_split _ 48, popc_split _ 40, popc_split _ 32, popc_split _ 24, popc_split _ 16, popc_split _ 8, popc_mod _ 8 (Nat.le_refl _)]
    omega
  · simp only [popT, bm]
    omega
theorem popT_lt (n : Nat) : popT n < 1152921504606846976 := by
  obtain ⟨a, b, c, d, e, f, g, h, ha, hb, hc, hd, he, hf, hg, hh, _, h2⟩ := popT_eq n
  omega
theorem popU_lt (n : Nat) : popU n < 2305843009213693952 := by have := popT_lt n; unfold popU; omega
theorem popV_lt (n : Nat) : popV n < 4611686018427387904 := by have := popU_lt n; unfold popV; omega
theorem popW_lt (n : Nat) : popW n < 9223372036854775808 := by have := popV_lt n; unfold popW; omega

theorem popW_eq (n : Nat) : popW n % 128 = popc 64 n := by
  obtain ⟨a, b, c, d, e, f, g, h, ha, hb, hc, hd, he, hf, hg, hh, h1, h2⟩ := popT_eq n
  have t1 : popT n / 256 = b + 256 * c + 65536 * d + 16777216 * e + 4294967296 * f + 1099511627776 * g + 281474976710656 * h := by omega
  have u1 : popU n = (a + b) + 256 * (b + c) + 65536 * (c + d) + 16777216 * (d + e) + 4294967296 * (e + f) + 1099511627776 * (f + g) + 281474976710656 * (g + h) + 72057594037927936 * h := by
    unfold popU; rw [t1, h2]; clear t1 h1 h2; omega
  clear t1 h2
  have u2 : popU n / 65536 = (c + d) + 256 * (d + e) + 65536 * (e + f) + 16777216 * (f + g) + 4294967296 * (g + h) + 1099511627776 * h := by clear h1; omega
  have v1 : popV n = (a + b + c + d) + 256 * (b + c + d + e) + 65536 * (c + d + e + f) + 16777216 * (d + e + f + g) + 4294967296 * ((e + f + g + h) + 256 * (f + g + h + 256 * (g + h) + 65536 * h)) := by
    unfold popV; rw [u2, u1]; clear u1 u2 h1; omega
  clear u1 u2
  have v2 : popV n / 4294967296 = (e + f + g + h) + 256 * (f + g + h + 256 * (g + h) + 65536 * h) := by clear h1; omega
  have w1 : popW n = (a + b + c + d + e + f + g + h) + 256 * ((b + c + d + e) + 256 * (c + d + e + f) + 65536 * (d + e + f + g) + 16777216 * ((e + f + g + h) + 256 * (f + g + h + 256 * (g + h) + 65536 * h)) + (f + g + h + 256 * (g + h) + 65536 * h)) := by
    unfold popW; rw [v2, v1]; clear v1 v2 h1; omega
  rw [w1, h1]
  clear v1 v2 w1 h1
  generalize (b + c + d + e) + 256 * (c + d + e + f) + 65536 * (d + e + f + g) + 16777216 * ((e + f + g + h) + 256 * (f + g + h + 256 * (g + h) + 65536 * h)) + (f + g + h + 256 * (g + h) + 65536 * h) = r
  omega

theorem rep85 : rep 85 8 = 6148914691236517205 := by decide
theorem rep51 : rep 51 8 = 3689348814741910323 := by decide
theorem rep15 : rep 15 8 = 1085102592571150095 := by decide

theorem wrap_nat (n : Nat) (h : n < 18446744073709551616) : IntKind.u64.wrap (n : Int) = n := by
  rw [IntKind.wrap_u64]; omega

theorem and_u64 (n c : Nat) (h : n < 18446744073709551616) (hc : c < 18446744073709551616) (e : Int) (he : e = (c : Int)) : bits .and .u64 (n : Int) e = ((n &&& c : Nat) : Int) := by
  rw [he]; exact bits_and_u64_nat n c h hc

theorem popY_step (n : Nat) (h : n < 18446744073709551616) :
    IntKind.u64.wrap (bits .and .u64 ((n : Int) / 2) 6148914691236517205 + bits .and .u64 (n : Int) 6148914691236517205) = (popY n : Int) := by
  have e : ((n : Int) / 2) = ((n / 2 : Nat) : Int) := by omega
  rw [e, and_u64 (n / 2) 6148914691236517205 (by omega) (by decide) 6148914691236517205 rfl, and_u64 n 6148914691236517205 h (by decide) 6148914691236517205 rfl]
  have h2 := step1 8 n
  rw [rep85] at h2
  have h3 := popY_lt n
  unfold popY at h3 ⊢
  rw [← h2] at h3 ⊢
  exact_mod_cast wrap_nat _ h3

theorem popZ_step (n : Nat) :
    IntKind.u64.wrap (bits .and .u64 ((popY n : Int) / 4) 3689348814741910323 + bits .and .u64 (popY n : Int) 3689348814741910323) = (popZ n : Int) := by
  have h := popY_lt n
  have h3 := popZ_lt n
  have hz : popZ n = bm f2 8 (popY n) := (bm_bm f1 f2 (fun b h => (f_lt ⟨b, h⟩).1) 8 n).symm
  generalize popY n = y at h hz ⊢
  have e : ((y : Int) / 4) = ((y / 4 : Nat) : Int) := by omega
  rw [e, and_u64 (y / 4) 3689348814741910323 (by omega) (by decide) 3689348814741910323 rfl, and_u64 y 3689348814741910323 h (by decide) 3689348814741910323 rfl]
  have h2 := step2 8 y
  rw [rep51] at h2
  rw [hz] at h3 ⊢
  rw [← h2] at h3 ⊢
  exact_mod_cast wrap_nat _ (Nat.lt_trans h3 (by decide))

theorem popT_step (n : Nat) : bits .and .u64 (IntKind.u64.wrap ((popZ n : Int) / 16 + (popZ n : Int))) 1085102592571150095 = (popT n : Int) := by
  have h3 := popZ_lt n
  have hn : nib 8 (popZ n) := bm_nib 8 n
  have ht : popT n = bm f3 8 (popZ n) := by
    unfold popT popZ
    rw [bm_bm (fun b => f2 (f1 b)) f3 (fun b h => (f_lt ⟨b, h⟩).2.1) 8 n]
    exact bm_congr _ _ (fun b h => (f_lt ⟨b, h⟩).2.2.2.2.symm) 8 n
  generalize popZ n = z at h3 hn ht ⊢
  have e : ((z : Int) / 16 + (z : Int)) = ((z / 16 + z : Nat) : Int) := by omega
  rw [e, wrap_nat _ (by omega), and_u64 (z / 16 + z) 1085102592571150095 (by omega) (by decide) 1085102592571150095 rfl, ht, ← step3 8 z hn, rep15]

theorem popU_step (n : Nat) : IntKind.u64.wrap ((popT n : Int) + (popT n : Int) / 256) = (popU n : Int) := by
  have h := popU_lt n
  have e : ((popT n : Int) + (popT n : Int) / 256) = ((popU n : Nat) : Int) := by unfold popU; omega
  rw [e, wrap_nat _ (by omega)]
theorem popV_step (n : Nat) : IntKind.u64.wrap ((popU n : Int) + (popU n : Int) / 65536) = (popV n : Int) := by
  have h := popV_lt n
  have e : ((popU n : Int) + (popU n : Int) / 65536) = ((popV n : Nat) : Int) := by unfold popV; omega
  rw [e, wrap_nat _ (by omega)]
theorem popW_step (n : Nat) : IntKind.u64.wrap ((popV n : Int) + (popV n : Int) / 4294967296) = (popW n : Int) := by
  have h := popW_lt n
  have e : ((popV n : Int) + (popV n : Int) / 4294967296) = ((popW n : Nat) : Int) := by unfold popW; omega
  rw [e, wrap_nat _ (by omega)]

/-- How many bytes below k are in a set; how many bytes a set has. -/
def ocnt (s : OSet) : Nat → Nat
  | 0 => 0
  | k + 1 => ocnt s k + (ohas s k).toNat
def olen (s : OSet) : Nat := ocnt s 256

theorem ocnt_le (s : OSet) : ∀ k, ocnt s k ≤ k
  | 0 => Nat.le_refl _
  | k + 1 => by have := ocnt_le s k; unfold ocnt; cases ohas s k <;> simp <;> omega
theorem olen_le (s : OSet) : olen s ≤ 256 := ocnt_le s 256

theorem ocnt_word (s : OSet) (i : Nat) : ∀ j, j ≤ 64 → ocnt s (64 * i + j) = ocnt s (64 * i) + popc j (owN s i)
  | 0, _ => by simp [popc]
  | j + 1, hj => by
    have h := ocnt_word s i j (by omega)
    rw [show 64 * i + (j + 1) = (64 * i + j) + 1 by omega, ocnt, h, popc, owN_testBit]
    have : j < 64 := by omega
    simp [this, ohas]
    omega

theorem olen_words (s : OSet) : olen s = popc 64 (owN s 0) + popc 64 (owN s 1) + popc 64 (owN s 2) + popc 64 (owN s 3) := by
  have h0 := ocnt_word s 0 64 (Nat.le_refl _)
  have h1 := ocnt_word s 1 64 (Nat.le_refl _)
  have h2 := ocnt_word s 2 64 (Nat.le_refl _)
  have h3 := ocnt_word s 3 64 (Nat.le_refl _)
  simp only [Nat.mul_zero, Nat.zero_add, Nat.mul_one, Nat.reduceMul, Nat.reduceAdd] at h0 h1 h2 h3
  have hz : ocnt s 0 = 0 := rfl
  unfold olen
  omega

theorem ocnt_and_or (s t : OSet) : ∀ k, ocnt (s &&& t) k + ocnt (s ||| t) k = ocnt s k + ocnt t k
  | 0 => rfl
  | k + 1 => by
    have h := ocnt_and_or s t k
    simp only [ocnt, ohas, BitVec.getLsbD_and, BitVec.getLsbD_or]
    cases s.getLsbD k <;> cases t.getLsbD k <;> simp <;> omega
theorem olen_and_or (s t : OSet) : olen (s &&& t) + olen (s ||| t) = olen s + olen t := ocnt_and_or s t 256

theorem ocnt_not (s : OSet) : ∀ k, k ≤ 256 → ocnt (~~~s) k + ocnt s k = k
  | 0, _ => rfl
  | k + 1, hk => by
    have h := ocnt_not s k (by omega)
    have hk2 : k < 256 := by omega
    simp only [ocnt, ohas, BitVec.getLsbD_not, hk2, decide_true, Bool.true_and]
    cases s.getLsbD k <;> simp <;> omega
theorem olen_not (s : OSet) : olen (~~~s) + olen s = 256 := ocnt_not s 256 (Nat.le_refl _)

end Go.Proofs.Ytjjhkagpoicimaa
namespace Go.Proofs.Ytjjhkagpoicimaa
open Go.RowKit

theorem ret_bool {a b : Bool} (h : a = b) : Ending.returned (.bool a) = .returned (.bool b) := by rw [h]
theorem ret_int {k : IntKind} {a b : Int} (h : a = b) : Ending.returned (.int k a) = .returned (.int k b) := by rw [h]
theorem u64max : IntKind.u64.max = 18446744073709551615 := by decide









theorem setCell_drewN (w : World) (n : Nat) (a : Addr) (u : Value) : (w.drewN n).setCell a u = (w.setCell a u).drewN n := rfl

theorem wrap_pow (x : Int) (_h0 : 0 ≤ x) : IntKind.u64.wrap (2 ^ (x % 64).toNat) = 2 ^ (x % 64).toNat := by
  have h1 : (x % 64).toNat < 64 := by omega
  have h2 : (2 : Int) ^ (x % 64).toNat < 2 ^ 64 := Int.pow_lt_pow_of_lt (by decide) h1
  have h3 : (0 : Int) ≤ 2 ^ (x % 64).toNat := Int.le_of_lt (Int.pow_pos (by decide))
  rw [IntKind.wrap_u64]
  exact Int.emod_eq_of_lt h3 h2

theorem bits_add_wrap (s : OSet) (i : Nat) (x : Int) (h0 : 0 ≤ x) (h1 : x ≤ 255) (hi : x / 64 = i) : bits .or .u64 (ow s i) (IntKind.u64.wrap (2 ^ (x % 64).toNat)) = ow (s ||| obit x.toNat) i := by
  rw [wrap_pow x h0]
  exact bits_add_ow s i x h0 h1 hi

set_option maxHeartbeats 400000 in
theorem add_any (s : OSet) (x : Int) (h0 : 0 ≤ x) (h1 : x ≤ 255) (n p : Nat) (v : World) (hp : p = v.heap.size) :
    Calls Try.prog 31 #[.pointer (some ⟨p, 0, none⟩), .int .u8 x] ((v.alloc (.cells #[.int .u64 (ow s 0), .int .u64 (ow s 1), .int .u64 (ow s 2), .int .u64 (ow s 3)] 47)).drewN n) fun e w' => e = .returned (.tuple #[]) ∧
      (v.alloc (.cells #[.int .u64 (ow (s ||| obit x.toNat) 0), .int .u64 (ow (s ||| obit x.toNat) 1), .int .u64 (ow (s ||| obit x.toNat) 2), .int .u64 (ow (s ||| obit x.toNat) 3)] 47)).drewN (n + 1) = w' := by
  subst hp
  have hq : x / 64 = 0 ∨ x / 64 = 1 ∨ x / 64 = 2 ∨ x / 64 = 3 := by omega
  rcases hq with hq | hq | hq | hq
  all_goals
    have k := bits_add_wrap s _ x h0 h1 hq
    have p0 := Lib.hid (ow_other s 0 x h0 h1)
    have p1 := Lib.hid (ow_other s 1 x h0 h1)
    have p2 := Lib.hid (ow_other s 2 x h0 h1)
    have p3 := Lib.hid (ow_other s 3 x h0 h1)
    go_enter Try.func31, Try.ntmps31
    go_wp2
    go_region
    go_wp2
    go_end0
    refine ⟨rfl, ?_⟩
    rw [setCell_drewN, World.setCell_alloc_at _ _ _ _ _ rfl]
    first | rw [p0.out (by omega)] | skip
    first | rw [p1.out (by omega)] | skip
    first | rw [p2.out (by omega)] | skip
    first | rw [p3.out (by omega)] | skip
    rfl


end Go.Proofs.Ytjjhkagpoicimaa
namespace Go.Proofs.Ytjjhkagpoicimaa
open Go.RowKit

set_option maxHeartbeats 1000000 in
theorem of_any (zs : List Int) (b o cap : Nat) (w : World) (hb : b < w.heap.size) (hm : zs.length ≤ maxLen)
    (hc : ∀ i, i < zs.length → w.cell? ⟨b, o + i, none⟩ = some (.int .u8 (zs.getD i 0))) (hr : ∀ i, 0 ≤ zs.getD i 0 ∧ zs.getD i 0 ≤ 255) :
    Calls Try.prog 15 #[.slice (some ⟨b, o, none⟩) zs.length cap] w fun e w' => e = .returned (.agg #[.int .u64 (ow (ofl zs) 0), .int .u64 (ow (ofl zs) 1), .int .u64 (ow (ofl zs) 2), .int .u64 (ow (ofl zs) 3)]) ∧ Below w.heap.size w w' := by
  unfold maxLen at hm
  have Hc := Lib.hid hc
  clear hc
  have Hr := Lib.hid hr
  clear hr
  go_enter Try.func15, Try.ntmps15
  go_wp2
  go_loopw [8] (fun i wr => ∃ k n : Nat, k ≤ zs.length ∧ i = .int .i64 k ∧ wr = ((w.alloc (.cells #[.int .u64 0, .int .u64 0, .int .u64 0, .int .u64 0] 47)).alloc (.cells #[.int .u64 (ow (ofl (zs.take k)) 0), .int .u64 (ow (ofl (zs.take k)) 1), .int .u64 (ow (ofl (zs.take k)) 2), .int .u64 (ow (ofl (zs.take k)) 3)] 47)).drewN n) (fun i _ => zs.length - (intOf i).toNat)
  case atStart => exact ⟨0, 0, Nat.zero_le _, rfl, by rw [World.drewN_zero, List.take_zero, ofl_nil, ow_zero, ow_zero, ow_zero, ow_zero]⟩
  case round =>
    obtain ⟨k, n, hk, rfl, rfl⟩ := hrel
    by_cases hlt : k < zs.length
    · have hcell := Hc.out k hlt
      have hrk := Hr.out k
      have hsn0 := ofl_snoc zs k hlt
      generalize zs.getD k 0 = z at hcell hrk hsn0
      have hsn := Lib.hid hsn0
      clear hsn0
      go_wp2_with (go_at_call 31; refine (add_any _ _ hrk.1 hrk.2 _ _ _ (by simp)).mono ?_; rintro e w' ⟨rfl, rfl⟩)
      go_roundw
      case rel => exact ⟨k + 1, n + 1, by omega, by go_num, by rw [hsn.out]⟩
      case measure => simp [intOf]; omega
    · go_wp2
      have hkz := Lib.hid (show zs.take k = zs from List.take_of_length_le (by omega))
      refine bodyPost_ret (v := .agg #[.int .u64 (ow (ofl (zs.take k)) 0), .int .u64 (ow (ofl (zs.take k)) 1), .int .u64 (ow (ofl (zs.take k)) 2), .int .u64 (ow (ofl (zs.take k)) 3)]) (by simp [results, Try.results15, go_sem]) rfl ⟨by rw [hkz.out], ?_⟩
      repeat (first | exact Below.refl _ _ | refine Below.drew ?_ | refine below_drewN ?_ _ | refine Below.setCell ?_ (by simp <;> omega) _ | refine Below.alloc ?_ (by simp <;> omega) _)

set_option maxHeartbeats 1000000 in
theorem of_nil (w : World) :
    Calls Try.prog 15 #[.slice none 0 0] w fun e w' => e = .returned (.agg #[.int .u64 (ow oz 0), .int .u64 (ow oz 1), .int .u64 (ow oz 2), .int .u64 (ow oz 3)]) ∧ Below w.heap.size w w' := by
  go_enter Try.func15, Try.ntmps15
  go_wp2
  refine wp_loop_rounds 1 ?_
  rw [rounds_succ]
  go_wp2
  refine bodyPost_ret (by simp [results, Try.results15, go_sem]; rfl) rfl ⟨by rw [ow_zero, ow_zero, ow_zero, ow_zero], ?_⟩
  repeat (first | exact Below.refl _ _ | refine Below.drew ?_ | refine below_drewN ?_ _ | refine Below.setCell ?_ (by simp <;> omega) _ | refine Below.alloc ?_ (by simp <;> omega) _)


/-- The four cells of a set. -/
def oc (s : OSet) : Array Value := #[.int .u64 (ow s 0), .int .u64 (ow s 1), .int .u64 (ow s 2), .int .u64 (ow s 3)]
theorem oblk_cells {w : World} {a : Nat} {s : OSet} {T : TypeId} (h : Blk w a (oc s) T) :
    w.cell? ⟨a, 0, none⟩ = some (.int .u64 (ow s 0)) ∧ w.cell? ⟨a, 1, none⟩ = some (.int .u64 (ow s 1)) ∧ w.cell? ⟨a, 2, none⟩ = some (.int .u64 (ow s 2)) ∧ w.cell? ⟨a, 3, none⟩ = some (.int .u64 (ow s 3)) :=
  ⟨by rw [h.cell]; rfl, by rw [h.cell]; rfl, by rw [h.cell]; rfl, by rw [h.cell]; rfl⟩
theorem oblk_store {w : World} {a : Nat} {s : OSet} {T : TypeId} (h : Blk w a (oc s) T) (t : OSet) :
    Blk ((((w.setCell ⟨a, 0, none⟩ (.int .u64 (ow t 0))).setCell ⟨a, 1, none⟩ (.int .u64 (ow t 1))).setCell ⟨a, 2, none⟩ (.int .u64 (ow t 2))).setCell ⟨a, 3, none⟩ (.int .u64 (ow t 3))) a (oc t) T := by
  have := (((h.set 0 (.int .u64 (ow t 0))).set 1 (.int .u64 (ow t 1))).set 2 (.int .u64 (ow t 2))).set 3 (.int .u64 (ow t 3))
  exact this





end Go.Proofs.Ytjjhkagpoicimaa
namespace Go.Proofs.Ytjjhkagpoicimaa
open Go.RowKit

/-- The cells of a result that isn't there yet. -/
theorem zblk_cells {w : World} {a : Nat} {T : TypeId} (h : Blk w a #[.int .u64 0, .int .u64 0, .int .u64 0, .int .u64 0] T) :
    w.cell? ⟨a, 0, none⟩ = some (.int .u64 0) ∧ w.cell? ⟨a, 1, none⟩ = some (.int .u64 0) ∧ w.cell? ⟨a, 2, none⟩ = some (.int .u64 0) ∧ w.cell? ⟨a, 3, none⟩ = some (.int .u64 0) :=
  ⟨by rw [h.cell]; rfl, by rw [h.cell]; rfl, by rw [h.cell]; rfl, by rw [h.cell]; rfl⟩

/-- The sets of the classes, as the code makes them. -/
def cLower : OSet := oSpan 97 122
def cUpper : OSet := oSpan 65 90
def cDigit : OSet := oSpan 48 57
def cGraph : OSet := oSpan 33 126
def cAlpha : OSet := cLower ||| cUpper
def cAlnum : OSet := cAlpha ||| cDigit
def cBlank : OSet := ofl [32, 9]
def cXdigit : OSet := cDigit ||| oSpan 65 70 ||| oSpan 97 102
def cSpace : OSet := cBlank ||| oSpan 10 13
def cCntrl : OSet := oSpan 0 31 ||| ofl [127]
def cPrint : OSet := oSpan 32 126
def cPunct : OSet := cGraph &&& ~~~cAlnum

def clsSet (l : List UInt8) : OSet :=
  bif l == [108, 111, 119, 101, 114] then cLower else bif l == [117, 112, 112, 101, 114] then cUpper else bif l == [97, 108, 112, 104, 97] then cAlpha
  else bif l == [100, 105, 103, 105, 116] then cDigit else bif l == [97, 108, 110, 117, 109] then cAlnum else bif l == [120, 100, 105, 103, 105, 116] then cXdigit
  else bif l == [98, 108, 97, 110, 107] then cBlank else bif l == [115, 112, 97, 99, 101] then cSpace else bif l == [99, 110, 116, 114, 108] then cCntrl
  else bif l == [112, 114, 105, 110, 116] then cPrint else bif l == [103, 114, 97, 112, 104] then cGraph else bif l == [112, 117, 110, 99, 116] then cPunct else oz
def clsOk (l : List UInt8) : Bool :=
  l == [108, 111, 119, 101, 114] || l == [117, 112, 112, 101, 114] || l == [97, 108, 112, 104, 97] || l == [100, 105, 103, 105, 116] || l == [97, 108, 110, 117, 109] || l == [120, 100, 105, 103, 105, 116]
  || l == [98, 108, 97, 110, 107] || l == [115, 112, 97, 99, 101] || l == [99, 110, 116, 114, 108] || l == [112, 114, 105, 110, 116] || l == [103, 114, 97, 112, 104] || l == [112, 117, 110, 99, 116]

theorem of_one (x : Int) (h0 : 0 ≤ x) (h1 : x ≤ 255) (W : World) (p : Nat) (hp : p = W.heap.size) :
    Calls Try.prog 15 #[.slice (some ⟨p, 0, none⟩) 1 1] (W.alloc (.cells #[.int .u8 x] 5)) fun e w' => e = .returned (.agg #[.int .u64 (ow (ofl [x]) 0), .int .u64 (ow (ofl [x]) 1), .int .u64 (ow (ofl [x]) 2), .int .u64 (ow (ofl [x]) 3)]) ∧ Below W.heap.size W w' := by
  refine (of_any [x] p 0 1 _ (by subst hp; simp) (by simp [maxLen]) (fun i hi => ?_) (fun i => ?_)).mono ?_
  · rw [(Blk.new W _ _ _ hp).cell]
    match i, hi with
    | 0, _ => rfl
  · match i with
    | 0 => exact ⟨h0, h1⟩
    | _ + 1 => simp
  · rintro e w' ⟨rfl, hb⟩
    exact ⟨rfl, ((Below.refl _ _).alloc (Nat.le_refl _) _).trans (hb.mono (by simp))⟩
theorem of_two (x y : Int) (h0 : 0 ≤ x) (h1 : x ≤ 255) (h2 : 0 ≤ y) (h3 : y ≤ 255) (W : World) (p : Nat) (hp : p = W.heap.size) :
    Calls Try.prog 15 #[.slice (some ⟨p, 0, none⟩) 2 2] (W.alloc (.cells #[.int .u8 x, .int .u8 y] 5)) fun e w' => e = .returned (.agg #[.int .u64 (ow (ofl [x, y]) 0), .int .u64 (ow (ofl [x, y]) 1), .int .u64 (ow (ofl [x, y]) 2), .int .u64 (ow (ofl [x, y]) 3)]) ∧ Below W.heap.size W w' := by
  refine (of_any [x, y] p 0 2 _ (by subst hp; simp) (by simp [maxLen]) (fun i hi => ?_) (fun i => ?_)).mono ?_
  · rw [(Blk.new W _ _ _ hp).cell]
    match i, hi with
    | 0, _ => rfl
    | 1, _ => rfl
  · match i with
    | 0 => exact ⟨h0, h1⟩
    | 1 => exact ⟨h2, h3⟩
    | _ + 2 => simp
  · rintro e w' ⟨rfl, hb⟩
    exact ⟨rfl, ((Below.refl _ _).alloc (Nat.le_refl _) _).trans (hb.mono (by simp))⟩













end Go.Proofs.Ytjjhkagpoicimaa
