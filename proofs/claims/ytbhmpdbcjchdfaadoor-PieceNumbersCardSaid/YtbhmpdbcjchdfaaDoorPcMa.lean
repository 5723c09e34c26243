/- What a script's text is made of (layer 11), as mathematics on lists of bytes: what stands there of some bytes, a number, a text's lines, a name, what stands between delimiters. -/
import Derived.Test.YtbhmpdbcjchdfaaDoorMaA
import Derived.Lib.SlTrimSet
import Derived.Lib.IndexAny
import Derived.Lib.IndexBytes
namespace Go.Proofs.YtbhmpdbcjchdfaaDoor

/-- How many bytes in front have p. -/
def pcLen (p : UInt8 → Bool) (l : List UInt8) : Nat := (l.takeWhile p).length
theorem pcLen_nil (p : UInt8 → Bool) : pcLen p [] = 0 := rfl
theorem pcLen_yes {p : UInt8 → Bool} {c : UInt8} {l : List UInt8} (h : p c = true) : pcLen p (c :: l) = pcLen p l + 1 := by simp [pcLen, h]
theorem pcLen_no {p : UInt8 → Bool} {c : UInt8} {l : List UInt8} (h : p c = false) : pcLen p (c :: l) = 0 := by simp [pcLen, h]
theorem pcLen_le (p : UInt8 → Bool) : ∀ l, pcLen p l ≤ l.length
  | [] => Nat.le_refl _
  | c :: l => by
    cases h : p c with
    | true => rw [pcLen_yes h]; have := pcLen_le p l; simp; omega
    | false => rw [pcLen_no h]; omega
theorem pcLen_drop (p : UInt8 → Bool) : ∀ l : List UInt8, l.dropWhile p = l.drop (pcLen p l)
  | [] => rfl
  | c :: l => by
    cases h : p c with
    | true => rw [pcLen_yes h, List.dropWhile_cons, h]; simp [pcLen_drop p l]
    | false => rw [pcLen_no h, List.dropWhile_cons, h]; simp
theorem pcLen_before (p : UInt8 → Bool) : ∀ (l : List UInt8) (j : Nat) b, j < pcLen p l → l[j]? = some b → p b = true
  | [], j, b, h, _ => by simp [pcLen_nil] at h
  | c :: l, j, b, h, hb => by
    cases hc : p c with
    | false => rw [pcLen_no hc] at h; omega
    | true =>
      rw [pcLen_yes hc] at h
      cases j with
      | zero => simp at hb; rw [← hb]; exact hc
      | succ j => exact pcLen_before p l j b (by omega) (by simpa using hb)
theorem pcLen_at (p : UInt8 → Bool) : ∀ (l : List UInt8) b, l[pcLen p l]? = some b → p b = false
  | [], b, h => by simp at h
  | c :: l, b, h => by
    cases hc : p c with
    | false => rw [pcLen_no hc] at h; simp at h; rw [← h]; exact hc
    | true => rw [pcLen_yes hc] at h; exact pcLen_at p l b (by simpa using h)
theorem pcLen_is {p : UInt8 → Bool} : ∀ {l : List UInt8} {k : Nat}, k ≤ l.length → (∀ (j : Nat) b, j < k → l[j]? = some b → p b = true) → (∀ b, l[k]? = some b → p b = false) → pcLen p l = k
  | [], k, hk, _, _ => by simp at hk; subst hk; rfl
  | c :: l, 0, _, _, h2 => pcLen_no (h2 c rfl)
  | c :: l, k + 1, hk, h1, h2 => by
    rw [pcLen_yes (h1 0 c (by omega) rfl), pcLen_is (l := l) (k := k) (by simpa using hk) (fun j b hj hb => h1 (j + 1) b (by omega) (by simpa using hb)) (fun b hb => h2 b (by simpa using hb))]
theorem pcLen_take (p : UInt8 → Bool) : ∀ (l : List UInt8) (e : Nat), pcLen p (l.take e) = min (pcLen p l) e
  | [], e => by simp [pcLen_nil]
  | c :: l, 0 => by simp [pcLen_nil]
  | c :: l, e + 1 => by
    cases h : p c with
    | true => rw [List.take_succ_cons, pcLen_yes h, pcLen_yes h, pcLen_take p l e]; omega
    | false => rw [List.take_succ_cons, pcLen_no h, pcLen_no h]; omega

/- At a place of a text. -/
theorem drop_at (s : ByteArray) (k : Nat) (h : k < s.size) : s.data.toList.drop k = s[k] :: s.data.toList.drop (k + 1) := by
  rw [List.drop_eq_getElem_cons (by simpa using h)]; rfl
theorem drop_end (s : ByteArray) (k : Nat) (h : s.size ≤ k) : s.data.toList.drop k = [] := List.drop_eq_nil_of_le (by rw [← size_list]; exact h)
theorem pcLen_atYes {p : UInt8 → Bool} {s : ByteArray} {k : Nat} (h : k < s.size) (hp : p s[k] = true) : pcLen p (s.data.toList.drop k) = pcLen p (s.data.toList.drop (k + 1)) + 1 := by rw [drop_at s k h, pcLen_yes hp]
theorem pcLen_atNo {p : UInt8 → Bool} {s : ByteArray} {k : Nat} (h : k < s.size) (hp : p s[k] = false) : pcLen p (s.data.toList.drop k) = 0 := by rw [drop_at s k h, pcLen_no hp]
theorem pcLen_atEnd (p : UInt8 → Bool) {s : ByteArray} {k : Nat} (h : s.size ≤ k) : pcLen p (s.data.toList.drop k) = 0 := by rw [drop_end s k h]; rfl
theorem pcLen_dropLe (p : UInt8 → Bool) (s : ByteArray) (k : Nat) (hk : k ≤ s.size) : k + pcLen p (s.data.toList.drop k) ≤ s.size := by
  have := pcLen_le p (s.data.toList.drop k)
  rw [List.length_drop, ← size_list] at this
  omega

/-- Those of some bytes that stand in front. -/
def pcIs (cs : List UInt8) (l : List UInt8) : Nat := pcLen (fun b => cs.contains b) l
theorem pcIs_trim (cs l : List UInt8) : (Lib.trimLeftS l cs).length + pcIs cs l = l.length := by
  unfold Lib.trimLeftS pcIs
  rw [pcLen_drop, List.length_drop]
  have := pcLen_le (fun b => cs.contains b) l
  omega
def pcBehind (cs L : List UInt8) (at' : Int) : Nat := if 0 ≤ at' ∧ at' ≤ L.length then at'.toNat + pcIs cs (L.drop at'.toNat) else 0
theorem pcBehind_at (cs L : List UInt8) (k : Nat) (h : k ≤ L.length) : pcBehind cs L k = k + pcIs cs (L.drop k) := by
  unfold pcBehind; rw [if_pos (by omega)]; simp
theorem pcBehind_no (cs L : List UInt8) (at' : Int) (h : ¬ (0 ≤ at' ∧ at' ≤ L.length)) : pcBehind cs L at' = 0 := by
  unfold pcBehind; rw [if_neg h]

/- An answer: a text, a place, an error. -/
abbrev PcAns := List UInt8 × Nat × Nat
def pcAt {α : Type} (L : List UInt8) (at' : Int) (z : α) (f : Nat → α) : α := if 0 ≤ at' ∧ at' ≤ L.length then f at'.toNat else z
theorem pcAt_at {α : Type} (L : List UInt8) (k : Nat) (z : α) (f : Nat → α) (h : k ≤ L.length) : pcAt L k z f = f k := by unfold pcAt; rw [if_pos (by omega)]; simp
theorem pcAt_no {α : Type} (L : List UInt8) (at' : Int) (z : α) (f : Nat → α) (h : ¬ (0 ≤ at' ∧ at' ≤ L.length)) : pcAt L at' z f = z := by unfold pcAt; rw [if_neg h]

/-- Digits. -/
def pcDigits : List UInt8 := [48, 49, 50, 51, 52, 53, 54, 55, 56, 57]
theorem pcDigits_iff (b : UInt8) : pcDigits.contains b = (decide (48 ≤ b.toNat) && decide (b.toNat ≤ 57)) := by
  have h : ∀ b : Fin 256, pcDigits.contains (UInt8.ofNat b.val) = (decide (48 ≤ (UInt8.ofNat b.val).toNat) && decide ((UInt8.ofNat b.val).toNat ≤ 57)) := by decide +kernel
  have := h ⟨b.toNat, b.toNat_lt⟩
  simpa using this
def pcVal (l : List UInt8) : Nat := l.foldl (fun n b => n * 10 + (b.toNat - 48)) 0
theorem pcVal_snoc (l : List UInt8) (b : UInt8) : pcVal (l ++ [b]) = pcVal l * 10 + (b.toNat - 48) := by simp [pcVal]
theorem pcVal_fold : ∀ (l : List UInt8) (n : Nat), (∀ b ∈ l, pcDigits.contains b = true) → l.foldl (fun n b => n * 10 + (b.toNat - 48)) n < (n + 1) * 10 ^ l.length
  | [], n, _ => by simp
  | b :: l, n, h => by
    have hb := h b (by simp)
    rw [pcDigits_iff] at hb
    simp at hb
    have ih := pcVal_fold l (n * 10 + (b.toNat - 48)) (fun x hx => h x (by simp [hx]))
    rw [List.foldl_cons, List.length_cons, Nat.pow_succ]
    have h2 : (n * 10 + (b.toNat - 48) + 1) * 10 ^ l.length ≤ ((n + 1) * 10) * 10 ^ l.length := Nat.mul_le_mul_right _ (by omega)
    rw [Nat.mul_assoc, Nat.mul_comm 10] at h2
    omega
theorem pcVal_lt (l : List UInt8) (h : ∀ b ∈ l, pcDigits.contains b = true) : pcVal l < 10 ^ l.length := by
  have := pcVal_fold l 0 h
  unfold pcVal
  omega
theorem pcVal_nine (l : List UInt8) (h : ∀ b ∈ l, pcDigits.contains b = true) (h9 : l.length ≤ 9) : pcVal l < 1000000000 := by
  have h1 := pcVal_lt l h
  have h2 : 10 ^ l.length ≤ 10 ^ 9 := Nat.pow_le_pow_right (by omega) h9
  omega
/-- The number at a place; the place behind; the error. -/
def pcNum (L : List UInt8) (k : Nat) : Nat × Nat × Nat :=
  let n := pcIs pcDigits (L.drop k)
  if n = 0 then (0, k, 2) else if 9 < n then (0, k, 3) else (pcVal ((L.drop k).take n), k + n, 0)

/-- A text's lines. -/
def pcLin : List UInt8 → Nat → List UInt8 → PcAns
  | [], p, acc => (acc ++ [10], p, 0)
  | [c], p, acc => if c = 10 then (acc ++ [10], p + 1, 0) else if c = 92 then ([], p, 11) else (acc ++ [c] ++ [10], p + 1, 0)
  | c :: x :: u, p, acc => if c = 10 then (acc ++ [10], p + 1, 0) else if c = 92 then pcLin u (p + 2) (acc ++ [x]) else pcLin (x :: u) (p + 1) (acc ++ [c])
theorem pcLin_nl (t : List UInt8) (p : Nat) (acc : List UInt8) : pcLin (10 :: t) p acc = (acc ++ [10], p + 1, 0) := by cases t <;> simp [pcLin]
theorem pcLin_bs (x : UInt8) (u : List UInt8) (p : Nat) (acc : List UInt8) : pcLin (92 :: x :: u) p acc = pcLin u (p + 2) (acc ++ [x]) := by simp [pcLin]
theorem pcLin_tail (p : Nat) (acc : List UInt8) : pcLin [92] p acc = ([], p, 11) := by simp [pcLin]
theorem pcLin_else (c : UInt8) (t : List UInt8) (p : Nat) (acc : List UInt8) (h1 : ¬ c = 10) (h2 : ¬ c = 92) : pcLin (c :: t) p acc = pcLin t (p + 1) (acc ++ [c]) := by
  cases t <;> simp [pcLin, h1, h2]

/-- A name. -/
def pcEnder (label : Bool) (b : UInt8) : Bool := b == 10 || (label && b == 59)
def pcEnd (label : Bool) (l : List UInt8) : Nat := pcLen (fun b => !pcEnder label b) l
def pcNameOf (n : List UInt8) (k e : Nat) : PcAns := if n = [] then ([], k, 14) else if 40 < n.length then ([], k, 3) else (n, e, 0)
def pcName (L : List UInt8) (k : Nat) (label : Bool) : PcAns :=
  pcNameOf (Lib.trimS ((L.drop k).take (pcEnd label (L.drop k))) [32, 9]) k (k + pcEnd label (L.drop k))

/-- What stands between delimiters. -/
def pcOpt (c : UInt8) (l : List UInt8) : Nat := match l with | [] => 0 | x :: _ => if x = c then 1 else 0
def pcAhead (t : List UInt8) : Nat := pcOpt 94 t + pcOpt 93 (t.drop (pcOpt 94 t))
/-- How long a bracket is, of which t stands behind the [ . -/
def pcBrk (t : List UInt8) : Nat := 1 + pcAhead t + min (pcLen (fun b => !(b == 93)) (t.drop (pcAhead t)) + 1) (t.drop (pcAhead t)).length
def pcPart (d : UInt8) (rx : Bool) (c : UInt8) (t : List UInt8) (p : Nat) : PcAns :=
  if c = 92 then
    match t with
    | [] => ([], p + 1, 5)
    | x :: _ => if x = d then ([x], p + 2, 0) else if (x == 10 && rx) = true then ([], p + 1, 2) else ([92, x], p + 2, 0)
  else
    let k := if (rx && c == 91) = true then pcBrk t else 1
    let i := pcLen (fun b => !(b == 10)) ((c :: t).take k)
    if i < k then ([], p + i, 2) else ((c :: t).take k, p + k, 0)
def pcBtw (d : UInt8) (rx : Bool) (L : List UInt8) : Nat → Nat → List UInt8 → PcAns
  | 0, _, _ => ([], L.length, 5)
  | n + 1, p, acc =>
    match L.drop p with
    | [] => ([], L.length, 5)
    | c :: t => if c = d then (acc, p + 1, 0) else if (pcPart d rx c t p).2.2 = 0 then pcBtw d rx L n (pcPart d rx c t p).2.1 (acc ++ (pcPart d rx c t p).1) else pcPart d rx c t p
theorem pcBtw_nil {d : UInt8} {rx : Bool} {L : List UInt8} {n p : Nat} {acc : List UInt8} (h : L.drop p = []) : pcBtw d rx L (n + 1) p acc = ([], L.length, 5) := by rw [pcBtw, h]
theorem pcBtw_del {d : UInt8} {rx : Bool} {L t : List UInt8} {n p : Nat} {acc : List UInt8} (h : L.drop p = d :: t) : pcBtw d rx L (n + 1) p acc = (acc, p + 1, 0) := by rw [pcBtw, h]; simp
theorem pcBtw_part {d c : UInt8} {rx : Bool} {L t x : List UInt8} {n p k : Nat} {acc : List UInt8} (h : L.drop p = c :: t) (hc : ¬ c = d) (hp : pcPart d rx c t p = (x, k, 0)) : pcBtw d rx L (n + 1) p acc = pcBtw d rx L n k (acc ++ x) := by rw [pcBtw, h]; simp [hc, hp]
theorem pcBtw_err {d c : UInt8} {rx : Bool} {L t x : List UInt8} {n p k e : Nat} {acc : List UInt8} (h : L.drop p = c :: t) (hc : ¬ c = d) (he : ¬ e = 0) (hp : pcPart d rx c t p = (x, k, e)) : pcBtw d rx L (n + 1) p acc = (x, k, e) := by rw [pcBtw, h]; simp [hc, hp, he]

theorem pcOpt_le (c : UInt8) (l : List UInt8) : pcOpt c l ≤ l.length := by
  unfold pcOpt
  split
  · simp
  · split <;> simp
theorem pcAhead_le (t : List UInt8) : pcAhead t ≤ t.length := by
  have h1 := pcOpt_le 94 t
  have h2 := pcOpt_le 93 (t.drop (pcOpt 94 t))
  rw [List.length_drop] at h2
  unfold pcAhead
  omega
theorem pcBrk_le (t : List UInt8) : pcBrk t ≤ t.length + 1 := by
  have h1 := pcAhead_le t
  have h2 : (t.drop (pcAhead t)).length = t.length - pcAhead t := List.length_drop
  unfold pcBrk
  omega
theorem pcBrk_pos (t : List UInt8) : 1 ≤ pcBrk t := by unfold pcBrk; omega
/-- A part that is right: one or more bytes further on; its text no longer than they. -/
theorem pcPart_ok {d c : UInt8} {rx : Bool} {t x : List UInt8} {p k : Nat} (h : pcPart d rx c t p = (x, k, 0)) : p < k ∧ k ≤ p + 1 + t.length ∧ x.length ≤ k - p := by
  unfold pcPart at h
  split at h
  · split at h
    · simp at h
    · split at h
      · simp at h; obtain ⟨rfl, rfl⟩ := h; simp; try omega
      · split at h
        · simp at h
        · simp at h; obtain ⟨rfl, rfl⟩ := h; simp; try omega
  · simp only at h
    have hb : 1 ≤ (if (rx && c == 91) = true then pcBrk t else 1) ∧ (if (rx && c == 91) = true then pcBrk t else 1) ≤ t.length + 1 := by
      split
      · exact ⟨pcBrk_pos t, pcBrk_le t⟩
      · omega
    generalize (if (rx && c == 91) = true then pcBrk t else 1) = k' at h hb
    split at h
    · simp at h
    · simp only [Prod.mk.injEq, and_true] at h
      obtain ⟨rfl, rfl⟩ := h
      have := List.length_take_le k' (c :: t)
      omega
theorem pcPart_err {d c : UInt8} {rx : Bool} {t x : List UInt8} {p k e : Nat} (h : pcPart d rx c t p = (x, k, e)) (he : ¬ e = 0) : x = [] ∧ k ≤ p + 1 + t.length ∧ (e = 2 ∨ e = 5) := by
  unfold pcPart at h
  split at h
  · split at h
    · simp at h; obtain ⟨rfl, rfl, rfl⟩ := h; simp
    · split at h
      · simp at h; omega
      · split at h
        · simp at h; obtain ⟨rfl, rfl, rfl⟩ := h; simp; try omega
        · simp at h; omega
  · simp only at h
    have hb : (if (rx && c == 91) = true then pcBrk t else 1) ≤ t.length + 1 := by
      split
      · exact pcBrk_le t
      · omega
    generalize (if (rx && c == 91) = true then pcBrk t else 1) = k' at h hb
    split at h
    · simp only [Prod.mk.injEq] at h
      obtain ⟨rfl, rfl, rfl⟩ := h
      simp; try omega
    · simp only [Prod.mk.injEq] at h
      omega

/- The index of a byte. -/
theorem index_len : ∀ (l : List UInt8) (c : UInt8), Lib.indexByte l c = if pcLen (fun b => !(b == c)) l < l.length then (pcLen (fun b => !(b == c)) l : Int) else -1
  | [], c => by simp [Lib.indexByte, pcLen_nil]
  | b :: l, c => by
    rw [Lib.indexByte]
    cases h : (b == c) with
    | true => rw [pcLen_no (by simp [h])]; rfl
    | false =>
      rw [pcLen_yes (by simp [h]), index_len l c]
      simp only [List.length_cons, Bool.false_eq_true, if_false]
      have := pcLen_le (fun b => !(b == c)) l
      by_cases h1 : pcLen (fun b => !(b == c)) l < l.length
      · rw [if_pos h1, if_neg (by simp), if_pos (by omega)]; simp
      · rw [if_neg h1, if_pos (by simp), if_neg (by omega)]
theorem indexAny_len (cs : List UInt8) : ∀ l : List UInt8, Lib.indexAny l cs = if pcLen (fun b => !cs.contains b) l < l.length then (pcLen (fun b => !cs.contains b) l : Int) else -1
  | [] => by simp [Lib.indexAny, pcLen_nil]
  | b :: l => by
    rw [Lib.indexAny]
    cases h : cs.contains b with
    | true => rw [pcLen_no (p := fun b => !cs.contains b) (by rw [h]; rfl)]; simp
    | false =>
      rw [pcLen_yes (p := fun b => !cs.contains b) (by rw [h]; rfl), indexAny_len cs l]
      simp only [List.length_cons, Bool.false_eq_true, if_false]
      have := pcLen_le (fun b => !cs.contains b) l
      by_cases h1 : pcLen (fun b => !cs.contains b) l < l.length
      · rw [if_pos h1, if_neg (by simp), if_pos (by omega)]; simp
      · rw [if_neg h1, if_pos (by simp), if_neg (by omega)]
end Go.Proofs.YtbhmpdbcjchdfaaDoor
