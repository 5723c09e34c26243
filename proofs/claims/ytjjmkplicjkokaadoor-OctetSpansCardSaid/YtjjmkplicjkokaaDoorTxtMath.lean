/- Plain mathematics of bytes as signs: a wide text, and back; how the model decodes such a text. No program is named here. -/
import Derived.Lib.DecodeN
import Derived.Lib.RuneBytes
import Derived.Laws.BytesArg
namespace Go.Proofs.YtjjmkplicjkokaaDoor

/-- The sign of one byte, as UTF-8. -/
def wide1 (b : UInt8) : List UInt8 := if b.toNat < 128 then [b] else [UInt8.ofNat (192 + b.toNat / 64), UInt8.ofNat (128 + b.toNat % 64)]
def wideL (l : List UInt8) : List UInt8 := l.flatMap wide1
/-- The bytes of a wide text; none: it isn't one. -/
def narrowL : List UInt8 → Option (List UInt8)
  | [] => some []
  | [b] => if b.toNat < 128 then some [b] else none
  | b :: c :: r =>
    if b.toNat < 128 then (narrowL (c :: r)).map (b :: ·)
    else if (b.toNat = 194 ∨ b.toNat = 195) ∧ 128 ≤ c.toNat ∧ c.toNat < 192 then (narrowL r).map (UInt8.ofNat ((b.toNat - 192) * 64 + c.toNat - 128) :: ·)
    else none

theorem ofNat_self (b : UInt8) : UInt8.ofNat b.toNat = b := by simp
theorem ofNat_toNat (n : Nat) (h : n < 256) : (UInt8.ofNat n).toNat = n := by simp; omega

theorem narrow_low (b : UInt8) (l : List UInt8) (h : b.toNat < 128) : narrowL (b :: l) = (narrowL l).map (b :: ·) := by
  cases l with
  | nil => simp [narrowL, h]
  | cons c r => simp [narrowL, h]
theorem narrow_two (b c : UInt8) (l : List UInt8) (h : b.toNat = 194 ∨ b.toNat = 195) (h1 : 128 ≤ c.toNat) (h2 : c.toNat < 192) :
    narrowL (b :: c :: l) = (narrowL l).map (UInt8.ofNat ((b.toNat - 192) * 64 + c.toNat - 128) :: ·) := by
  have hb : ¬ b.toNat < 128 := by omega
  rw [narrowL, if_neg hb, if_pos ⟨h, h1, h2⟩]
theorem narrow_bad (b : UInt8) (l : List UInt8) (h : ¬ b.toNat < 128) (h2 : ∀ c r, l = c :: r → ¬ ((b.toNat = 194 ∨ b.toNat = 195) ∧ 128 ≤ c.toNat ∧ c.toNat < 192)) : narrowL (b :: l) = none := by
  cases l with
  | nil => simp [narrowL, h]
  | cons c r => rw [narrowL, if_neg h, if_neg (h2 c r rfl)]

theorem wideL_cons (b : UInt8) (l : List UInt8) : wideL (b :: l) = wide1 b ++ wideL l := by simp [wideL]
theorem wideL_snoc (l : List UInt8) (b : UInt8) : wideL (l ++ [b]) = wideL l ++ wide1 b := by simp [wideL]
theorem wide1_len (b : UInt8) : 1 ≤ (wide1 b).length ∧ (wide1 b).length ≤ 2 := by unfold wide1; split <;> simp
theorem wideL_len : ∀ l : List UInt8, (wideL l).length ≤ 2 * l.length
  | [] => by simp [wideL]
  | b :: l => by have h := wideL_len l; have := wide1_len b; rw [wideL_cons, List.length_append, List.length_cons]; omega

theorem narrow_wide : ∀ l : List UInt8, narrowL (wideL l) = some l
  | [] => rfl
  | b :: l => by
    have h := narrow_wide l
    rw [wideL_cons, wide1]
    have hb := b.toNat_lt
    by_cases hl : b.toNat < 128
    · rw [if_pos hl, List.cons_append, List.nil_append, narrow_low b _ hl, h]; rfl
    · rw [if_neg hl, List.cons_append, List.cons_append, List.nil_append]
      have e1 : (UInt8.ofNat (192 + b.toNat / 64)).toNat = 192 + b.toNat / 64 := ofNat_toNat _ (by omega)
      have e2 : (UInt8.ofNat (128 + b.toNat % 64)).toNat = 128 + b.toNat % 64 := ofNat_toNat _ (by omega)
      rw [narrow_two _ _ _ (by rw [e1]; omega) (by rw [e2]; omega) (by rw [e2]; omega), h, e1, e2]
      rw [show (192 + b.toNat / 64 - 192) * 64 + (128 + b.toNat % 64) - 128 = b.toNat by omega, ofNat_self]
      rfl

/-- What AppendRune lays for the rune of a byte. -/
theorem rune_byte : ∀ n : Fin 256, Lib.encodeRune (n.val : Int) = wide1 (UInt8.ofNat n.val) := by decide +kernel
theorem rune_wide (b : UInt8) : Lib.encodeRune (b.toNat : Int) = wide1 b := by
  have h := rune_byte ⟨b.toNat, b.toNat_lt⟩
  simp only [ofNat_self] at h
  exact h

set_option maxRecDepth 100000 in
/-- Decoding by the list's own bytes. -/
theorem getD_get (s : ByteArray) (i : Nat) : s.data.toList.getD i 0 = s.get! i := by
  cases s with
  | mk d =>
    show d.toList.getD i 0 = d[i]!
    by_cases h : i < d.size
    · rw [getElem!_pos d i h]; simp [List.getD, h]
    · rw [getElem!_neg d i h]; simp [List.getD, h]; rfl
theorem size_list (s : ByteArray) : s.size = s.data.toList.length := rfl
set_option maxRecDepth 100000 in
theorem decode_list (s : ByteArray) (pos : Nat) : Utf8.decode s pos = Lib.decodeN (s.data.toList.length - pos) (s.data.toList.getD pos 0).toNat (s.data.toList.getD (pos + 1) 0).toNat (s.data.toList.getD (pos + 2) 0).toNat (s.data.toList.getD (pos + 3) 0).toNat := by
  rw [Lib.decode_at, ← getD_get, ← getD_get, ← getD_get, ← getD_get, size_list]

theorem decodeN_low (n b c d e : Nat) (h : b < 128) : Lib.decodeN n b c d e = (b, 1) := by rw [Lib.decodeN, if_pos h]
theorem decodeN_two (n b c d e : Nat) (hn : 1 < n) (h : b = 194 ∨ b = 195) (h1 : 128 ≤ c) (h2 : c < 192) : Lib.decodeN n b c d e = ((b - 192) * 64 + c - 128, 2) := by
  rw [Lib.decodeN, if_neg (by omega), if_pos (by omega), if_pos (by omega)]
  refine Prod.ext ?_ rfl
  simp only
  omega
set_option maxRecDepth 100000 in
theorem decodeN_bad (n b c d e : Nat) (hb : b < 256) (hc : c < 256) (h : ¬ b < 128) (h2 : ¬ (1 < n ∧ (b = 194 ∨ b = 195) ∧ 128 ≤ c ∧ c < 192)) : 255 < (Lib.decodeN n b c d e).1 := by
  unfold Lib.decodeN
  rw [if_neg h]
  repeat' split
  all_goals (simp only; omega)

set_option maxRecDepth 100000 in
/-- One step of decoding, and of narrowing. -/
theorem narrow_step (s : ByteArray) (pos : Nat) (h : pos < s.size) :
    (255 < (Utf8.decode s pos).1 ∧ narrowL (s.data.toList.drop pos) = none) ∨
    ((Utf8.decode s pos).1 ≤ 255 ∧ 1 ≤ (Utf8.decode s pos).2 ∧ narrowL (s.data.toList.drop pos) = (narrowL (s.data.toList.drop (pos + (Utf8.decode s pos).2))).map (UInt8.ofNat (Utf8.decode s pos).1 :: ·)) := by
  rw [size_list] at h
  rw [decode_list]
  generalize hl : s.data.toList = l at h ⊢
  have hd : l.drop pos = l.getD pos 0 :: l.drop (pos + 1) := by rw [List.drop_eq_getElem_cons h]; simp [List.getD, h]
  have hb := (l.getD pos 0).toNat_lt
  have hc := (l.getD (pos + 1) 0).toNat_lt
  by_cases hlow : (l.getD pos 0).toNat < 128
  · right
    rw [decodeN_low _ _ _ _ _ hlow, hd, narrow_low _ _ hlow]
    simp only [ofNat_self]
    exact ⟨by omega, Nat.le_refl _, trivial⟩
  · by_cases h2 : 1 < l.length - pos ∧ ((l.getD pos 0).toNat = 194 ∨ (l.getD pos 0).toNat = 195) ∧ 128 ≤ (l.getD (pos + 1) 0).toNat ∧ (l.getD (pos + 1) 0).toNat < 192
    · right
      obtain ⟨a1, a2, a3, a4⟩ := h2
      have hd2 : l.drop (pos + 1) = l.getD (pos + 1) 0 :: l.drop (pos + 2) := by rw [List.drop_eq_getElem_cons (by omega)]; simp [List.getD, show pos + 1 < l.length by omega]
      rw [decodeN_two _ _ _ _ _ a1 a2 a3 a4, hd, hd2, narrow_two _ _ _ a2 a3 a4]
      exact ⟨by simp only; omega, by simp, rfl⟩
    · left
      refine ⟨decodeN_bad _ _ _ _ _ hb hc hlow h2, ?_⟩
      rw [hd]
      refine narrow_bad _ _ hlow fun c r hcr hh => h2 ?_
      have hlen : pos + 1 < l.length := by
        rcases Nat.lt_or_ge (pos + 1) l.length with hx | hx
        · exact hx
        · rw [List.drop_eq_nil_of_le hx] at hcr; cases hcr
      have hc2 : l.getD (pos + 1) 0 = c := by
        rw [List.drop_eq_getElem_cons hlen] at hcr
        simp only [List.cons.injEq] at hcr
        rw [← hcr.1]; simp [List.getD, hlen]
      rw [hc2]
      exact ⟨by omega, hh⟩

/-- The text of a list of bytes. -/
def txt (l : List UInt8) : ByteArray := ⟨l.toArray⟩
theorem txt_size (l : List UInt8) : (txt l).size = l.length := by simp [txt, ByteArray.size]
theorem txt_list (l : List UInt8) : (txt l).data.toList = l := rfl
theorem txt_append (a b : List UInt8) : txt a ++ txt b = txt (a ++ b) := by
  have h : (txt a ++ txt b).data = (txt (a ++ b)).data := by simp [txt]
  cases hx : txt a ++ txt b
  cases hy : txt (a ++ b)
  rw [hx, hy] at h
  simp only at h
  rw [h]
theorem txt_of (s : ByteArray) : txt s.data.toList = s := by cases s; rfl

set_option maxRecDepth 100000 in
/-- Decoding a wide text: the sign of the byte that stands there. -/
theorem decode_wide (a : List UInt8) (b : UInt8) (c : List UInt8) :
    Utf8.decode (txt (wideL a ++ (wide1 b ++ wideL c))) (wideL a).length = (b.toNat, (wide1 b).length) := by
  rw [decode_list, txt_list]
  have hb := b.toNat_lt
  have g : ∀ k, (wideL a ++ (wide1 b ++ wideL c)).getD ((wideL a).length + k) 0 = (wide1 b ++ wideL c).getD k 0 := by
    intro k
    simp only [List.getD]
    rw [List.getElem?_append_right (by omega), show (wideL a).length + k - (wideL a).length = k by omega]
  have g0 := g 0
  rw [Nat.add_zero] at g0
  rw [g0, g 1, g 2, g 3, List.length_append, List.length_append]
  unfold wide1
  by_cases hl : b.toNat < 128
  · rw [if_pos hl]
    simp only [List.cons_append, List.nil_append, List.getD_cons_zero]
    rw [decodeN_low _ _ _ _ _ hl]
    rfl
  · rw [if_neg hl]
    simp only [List.cons_append, List.nil_append, List.getD_cons_zero, List.getD_cons_succ, List.length_cons, List.length_nil]
    have e1 : (UInt8.ofNat (192 + b.toNat / 64)).toNat = 192 + b.toNat / 64 := ofNat_toNat _ (by omega)
    have e2 : (UInt8.ofNat (128 + b.toNat % 64)).toNat = 128 + b.toNat % 64 := ofNat_toNat _ (by omega)
    rw [decodeN_two _ _ _ _ _ (by omega) (by rw [e1]; omega) (by rw [e2]; omega) (by rw [e2]; omega), e1, e2]
    refine Prod.ext ?_ rfl
    simp only
    omega

end Go.Proofs.YtjjmkplicjkokaaDoor
