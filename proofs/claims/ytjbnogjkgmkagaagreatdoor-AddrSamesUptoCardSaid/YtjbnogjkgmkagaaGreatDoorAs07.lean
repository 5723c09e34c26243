/- The proof's texts PcMa, AdMa, NdTa, NdInner, NdStk: what the claim reaches of them. -/
import Derived.Test.YtjbnogjkgmkagaaGreatDoorAs01
import Derived.Lib.SlTrimSet
import Derived.Lib.IndexAny
import Derived.Lib.IndexBytes
import Derived.Test.YtjbnogjkgmkagaaGreatDoorAs06
import Derived.Test.YtjbnogjkgmkagaaGreatDoorAs03
import Derived.Lib.Hide
import Derived.Test.YtjbnogjkgmkagaaGreatDoorAs02
import Derived.RangeFuncBox
import Derived.Maps.AppendAt
import Derived.WalkSmall
namespace Go.Proofs.YtjbnogjkgmkagaaGreatDoor
def pcLen (p : UInt8 → Bool) (l : List UInt8) : Nat := (l.takeWhile p).length
theorem pcLen_nil (p : UInt8 → Bool) : pcLen p [] = 0 := rfl
theorem pcLen_yes {p : UInt8 → Bool} {c : UInt8} {l : List UInt8} (h : p c = true) : pcLen p (c :: l) = pcLen p l + 1 := by simp [pcLen, h]
theorem pcLen_no {p : UInt8 → Bool} {c : UInt8} {l : List UInt8} (h : p c = false) : pcLen p (c :: l) = 0 := by simp [pcLen, h]
theorem pcLen_le (p : UInt8 → Bool) : ∀ l, pcLen p l ≤ l.length
 | [] => Nat.le_refl _
 | c :: l => by
  cases h : p c with
  | true => rw [pcLen_yes h]; have := pcLen_le p l; simp; omega
  | false => rw [pcLen_no h]; omega
theorem pcLen_drop (p : UInt8 → Bool) : ∀ l : List UInt8, l.dropWhile p = l.drop (pcLen p l)
 | [] => rfl
 | c :: l => by
  cases h : p c with
  | true => rw [pcLen_yes h, List.dropWhile_cons, h]; simp [pcLen_drop p l]
  | false => rw [pcLen_no h, List.dropWhile_cons, h]; simp
theorem pcLen_before (p : UInt8 → Bool) : ∀ (l : List UInt8) (j : Nat) b, j < pcLen p l → l[j]? = some b → p b = true
 | [], j, b, h, _ => by simp [pcLen_nil] at h
 | c :: l, j, b, h, hb => by
  cases hc : p c with
  | false => rw [pcLen_no hc] at h; omega
  | true =>
   rw [pcLen_yes hc] at h
   cases j with
   | zero => simp at hb; rw [← hb]; exact hc
   | succ j => exact pcLen_before p l j b (by omega) (by simpa using hb)
theorem drop_at (s : ByteArray) (k : Nat) (h : k < s.size) : s.data.toList.drop k = s[k] :: s.data.toList.drop (k + 1) := by
 rw [List.drop_eq_getElem_cons (by simpa using h)]; rfl
theorem drop_end (s : ByteArray) (k : Nat) (h : s.size ≤ k) : s.data.toList.drop k = [] := List.drop_eq_nil_of_le (by rw [← size_list]; exact h)
theorem pcLen_dropLe (p : UInt8 → Bool) (s : ByteArray) (k : Nat) (hk : k ≤ s.size) : k + pcLen p (s.data.toList.drop k) ≤ s.size := by
 have := pcLen_le p (s.data.toList.drop k)
 rw [List.length_drop, ← size_list] at this
 omega
def pcIs (cs : List UInt8) (l : List UInt8) : Nat := pcLen (fun b => cs.contains b) l
theorem pcIs_trim (cs l : List UInt8) : (Lib.trimLeftS l cs).length + pcIs cs l = l.length := by
 unfold Lib.trimLeftS pcIs
 rw [pcLen_drop, List.length_drop]
 have := pcLen_le (fun b => cs.contains b) l
 omega
def pcBehind (cs L : List UInt8) (at' : Int) : Nat := if 0 ≤ at' ∧ at' ≤ L.length then at'.toNat + pcIs cs (L.drop at'.toNat) else 0
theorem pcBehind_at (cs L : List UInt8) (k : Nat) (h : k ≤ L.length) : pcBehind cs L k = k + pcIs cs (L.drop k) := by
 unfold pcBehind; rw [if_pos (by omega)]; simp
theorem pcBehind_no (cs L : List UInt8) (at' : Int) (h : ¬ (0 ≤ at' ∧ at' ≤ L.length)) : pcBehind cs L at' = 0 := by
 unfold pcBehind; rw [if_neg h]
abbrev PcAns := List UInt8 × Nat × Nat
def pcAt {α : Type} (L : List UInt8) (at' : Int) (z : α) (f : Nat → α) : α := if 0 ≤ at' ∧ at' ≤ L.length then f at'.toNat else z
theorem pcAt_at {α : Type} (L : List UInt8) (k : Nat) (z : α) (f : Nat → α) (h : k ≤ L.length) : pcAt L k z f = f k := by unfold pcAt; rw [if_pos (by omega)]; simp
def pcDigits : List UInt8 := [48, 49, 50, 51, 52, 53, 54, 55, 56, 57]
theorem pcDigits_iff (b : UInt8) : pcDigits.contains b = (decide (48 ≤ b.toNat) && decide (b.toNat ≤ 57)) := by
 have h : ∀ b : Fin 256, pcDigits.contains (UInt8.ofNat b.val) = (decide (48 ≤ (UInt8.ofNat b.val).toNat) && decide ((UInt8.ofNat b.val).toNat ≤ 57)) := by decide +kernel
 have := h ⟨b.toNat, b.toNat_lt⟩
 simpa using this
def pcVal (l : List UInt8) : Nat := l.foldl (fun n b => n * 10 + (b.toNat - 48)) 0
theorem pcVal_snoc (l : List UInt8) (b : UInt8) : pcVal (l ++ [b]) = pcVal l * 10 + (b.toNat - 48) := by simp [pcVal]
theorem pcVal_fold : ∀ (l : List UInt8) (n : Nat), (∀ b ∈ l, pcDigits.contains b = true) → l.foldl (fun n b => n * 10 + (b.toNat - 48)) n < (n + 1) * 10 ^ l.length
 | [], n, _ => by simp
 | b :: l, n, h => by
  have hb := h b (by simp)
  rw [pcDigits_iff] at hb
  simp at hb
  have ih := pcVal_fold l (n * 10 + (b.toNat - 48)) (fun x hx => h x (by simp [hx]))
  rw [List.foldl_cons, List.length_cons, Nat.pow_succ]
  have h2 : (n * 10 + (b.toNat - 48) + 1) * 10 ^ l.length ≤ ((n + 1) * 10) * 10 ^ l.length := Nat.mul_le_mul_right _ (by omega)
  rw [Nat.mul_assoc, Nat.mul_comm 10] at h2
  omega
theorem pcVal_lt (l : List UInt8) (h : ∀ b ∈ l, pcDigits.contains b = true) : pcVal l < 10 ^ l.length := by
 have := pcVal_fold l 0 h
 unfold pcVal
 omega
theorem pcVal_nine (l : List UInt8) (h : ∀ b ∈ l, pcDigits.contains b = true) (h9 : l.length ≤ 9) : pcVal l < 1000000000 := by
 have h1 := pcVal_lt l h
 have h2 : 10 ^ l.length ≤ 10 ^ 9 := Nat.pow_le_pow_right (by omega) h9
 omega
def pcNum (L : List UInt8) (k : Nat) : Nat × Nat × Nat :=
 let n := pcIs pcDigits (L.drop k)
 if n = 0 then (0, k, 2) else if 9 < n then (0, k, 3) else (pcVal ((L.drop k).take n), k + n, 0)
def pcOpt (c : UInt8) (l : List UInt8) : Nat := match l with | [] => 0 | x :: _ => if x = c then 1 else 0
def pcAhead (t : List UInt8) : Nat := pcOpt 94 t + pcOpt 93 (t.drop (pcOpt 94 t))
def pcBrk (t : List UInt8) : Nat := 1 + pcAhead t + min (pcLen (fun b => !(b == 93)) (t.drop (pcAhead t)) + 1) (t.drop (pcAhead t)).length
def pcPart (d : UInt8) (rx : Bool) (c : UInt8) (t : List UInt8) (p : Nat) : PcAns :=
 if c = 92 then
  match t with
  | [] => ([], p + 1, 5)
  | x :: _ => if x = d then ([x], p + 2, 0) else if (x == 10 && rx) = true then ([], p + 1, 2) else ([92, x], p + 2, 0)
 else
  let k := if (rx && c == 91) = true then pcBrk t else 1
  let i := pcLen (fun b => !(b == 10)) ((c :: t).take k)
  if i < k then ([], p + i, 2) else ((c :: t).take k, p + k, 0)
def pcBtw (d : UInt8) (rx : Bool) (L : List UInt8) : Nat → Nat → List UInt8 → PcAns
 | 0, _, _ => ([], L.length, 5)
 | n + 1, p, acc =>
  match L.drop p with
  | [] => ([], L.length, 5)
  | c :: t => if c = d then (acc, p + 1, 0) else if (pcPart d rx c t p).2.2 = 0 then pcBtw d rx L n (pcPart d rx c t p).2.1 (acc ++ (pcPart d rx c t p).1) else pcPart d rx c t p
theorem pcBtw_nil {d : UInt8} {rx : Bool} {L : List UInt8} {n p : Nat} {acc : List UInt8} (h : L.drop p = []) : pcBtw d rx L (n + 1) p acc = ([], L.length, 5) := by rw [pcBtw, h]
theorem pcBtw_del {d : UInt8} {rx : Bool} {L t : List UInt8} {n p : Nat} {acc : List UInt8} (h : L.drop p = d :: t) : pcBtw d rx L (n + 1) p acc = (acc, p + 1, 0) := by rw [pcBtw, h]; simp
theorem pcBtw_part {d c : UInt8} {rx : Bool} {L t x : List UInt8} {n p k : Nat} {acc : List UInt8} (h : L.drop p = c :: t) (hc : ¬ c = d) (hp : pcPart d rx c t p = (x, k, 0)) : pcBtw d rx L (n + 1) p acc = pcBtw d rx L n k (acc ++ x) := by rw [pcBtw, h]; simp [hc, hp]
theorem pcBtw_err {d c : UInt8} {rx : Bool} {L t x : List UInt8} {n p k e : Nat} {acc : List UInt8} (h : L.drop p = c :: t) (hc : ¬ c = d) (he : ¬ e = 0) (hp : pcPart d rx c t p = (x, k, e)) : pcBtw d rx L (n + 1) p acc = (x, k, e) := by rw [pcBtw, h]; simp [hc, hp, he]
theorem pcOpt_le (c : UInt8) (l : List UInt8) : pcOpt c l ≤ l.length := by
 unfold pcOpt
 split
 ·simp
 ·split <;> simp
theorem pcAhead_le (t : List UInt8) : pcAhead t ≤ t.length := by
 have h1 := pcOpt_le 94 t
 have h2 := pcOpt_le 93 (t.drop (pcOpt 94 t))
 rw [List.length_drop] at h2
 unfold pcAhead
 omega
theorem pcBrk_le (t : List UInt8) : pcBrk t ≤ t.length + 1 := by
 have h1 := pcAhead_le t
 have h2 : (t.drop (pcAhead t)).length = t.length - pcAhead t := List.length_drop
 unfold pcBrk
 omega
theorem pcBrk_pos (t : List UInt8) : 1 ≤ pcBrk t := by unfold pcBrk; omega
theorem pcPart_ok {d c : UInt8} {rx : Bool} {t x : List UInt8} {p k : Nat} (h : pcPart d rx c t p = (x, k, 0)) : p < k ∧ k ≤ p + 1 + t.length ∧ x.length ≤ k - p := by
 unfold pcPart at h
 split at h
 ·split at h
  ·simp at h
  ·split at h
   ·simp at h; obtain ⟨rfl, rfl⟩ := h; simp; try omega
   ·split at h
    ·simp at h
    ·simp at h; obtain ⟨rfl, rfl⟩ := h; simp; try omega
 ·simp only at h
  have hb : 1 ≤ (if (rx && c == 91) = true then pcBrk t else 1) ∧ (if (rx && c == 91) = true then pcBrk t else 1) ≤ t.length + 1 := by
   split
   ·exact ⟨pcBrk_pos t, pcBrk_le t⟩
   ·omega
  generalize (if (rx && c == 91) = true then pcBrk t else 1) = k' at h hb
  split at h
  ·simp at h
  ·simp only [Prod.mk.injEq, and_true] at h
   obtain ⟨rfl, rfl⟩ := h
   have := List.length_take_le k' (c :: t)
   omega
theorem pcPart_err {d c : UInt8} {rx : Bool} {t x : List UInt8} {p k e : Nat} (h : pcPart d rx c t p = (x, k, e)) (he : ¬ e = 0) : x = [] ∧ k ≤ p + 1 + t.length ∧ (e = 2 ∨ e = 5) := by
 unfold pcPart at h
 split at h
 ·split at h
  ·simp at h; obtain ⟨rfl, rfl, rfl⟩ := h; simp
  ·split at h
   ·simp at h; omega
   ·split at h
    ·simp at h; obtain ⟨rfl, rfl, rfl⟩ := h; simp; try omega
    ·simp at h; omega
 ·simp only at h
  have hb : (if (rx && c == 91) = true then pcBrk t else 1) ≤ t.length + 1 := by
   split
   ·exact pcBrk_le t
   ·omega
  generalize (if (rx && c == 91) = true then pcBrk t else 1) = k' at h hb
  split at h
  ·simp only [Prod.mk.injEq] at h
   obtain ⟨rfl, rfl, rfl⟩ := h
   simp; try omega
  ·simp only [Prod.mk.injEq] at h
   omega
theorem index_len : ∀ (l : List UInt8) (c : UInt8), Lib.indexByte l c = if pcLen (fun b => !(b == c)) l < l.length then (pcLen (fun b => !(b == c)) l : Int) else -1
 | [], c => by simp [Lib.indexByte, pcLen_nil]
 | b :: l, c => by
  rw [Lib.indexByte]
  cases h : (b == c) with
  | true => rw [pcLen_no (by simp [h])]; rfl
  | false =>
   rw [pcLen_yes (by simp [h]), index_len l c]
   simp only [List.length_cons, Bool.false_eq_true, if_false]
   have := pcLen_le (fun b => !(b == c)) l
   by_cases h1 : pcLen (fun b => !(b == c)) l < l.length
   ·rw [if_pos h1, if_neg (by simp), if_pos (by omega)]; simp
   ·rw [if_neg h1, if_pos (by simp), if_neg (by omega)]
def pcBetween (L : List UInt8) (a : Int) (d : UInt8) (rx : Bool) : PcAns := pcAt L a ([], 0, 1) fun k => pcBtw d rx L (L.length + 1) k []
end Go.Proofs.YtjbnogjkgmkagaaGreatDoor
namespace Go.Proofs.YtjbnogjkgmkagaaGreatDoor
set_option linter.unusedVariables false
abbrev Wm := Int × ByteArray
def wmOf (m : Nat × Nat) : Wm := ((m.1 : Int), ⟨#[92, UInt8.ofNat m.2]⟩)
def wmMove (by' : Int) (l : List Wm) : List Wm := l.map fun m => (Go.IntKind.i64.wrap (m.1 + by'), m.2)
abbrev AdRd (α : Type) := Except (Nat × Nat) (α × List Wm × Nat)
structure Adr where
 kind : Nat
 line : Nat
 text : List UInt8
 tree : Option Nd
def adNone : Adr := ⟨0, 0, [], none⟩
def delimM (ext : Bool) (L : List UInt8) (b : Nat) (d : UInt8) : AdRd (List UInt8 × Nd) :=
 let r := pcBetween L b d true
 if r.2.2 = 0 then
  (if r.1 = [] then .error (2, b) else
   match parseM ext r.1 with
   | .error q => .error (q.1, b)
   | .ok q => .ok ((r.1, q.2), wmMove b (q.1.marks.map wmOf), r.2.1))
 else .error (r.2.2, r.2.1)
def adRx (ext : Bool) (L : List UInt8) (b : Nat) (d : UInt8) : AdRd Adr :=
 match delimM ext L b d with
 | .error q => .error q
 | .ok q => .ok (⟨3, 0, q.1.1, some q.1.2⟩, q.2)
def adLine (L : List UInt8) (k : Nat) : AdRd Adr :=
 let r := pcNum L k
 if r.2.2 = 0 then (if r.1 = 0 then .error (12, k) else .ok (⟨1, r.1, [], none⟩, [], r.2.1)) else .error (r.2.2, r.2.1)
def adPlus (L : List UInt8) (k : Nat) : AdRd Adr :=
 let r := pcNum L (k + 1)
 if r.2.2 = 0 then .ok (⟨4, r.1, [], none⟩, [((k : Int), ⟨#[43]⟩)], r.2.1) else .error (r.2.2, r.2.1)
def adDel (ext : Bool) (L : List UInt8) (k : Nat) : AdRd Adr :=
 match L.drop (k + 1) with
 | [] => .error (12, k)
 | x :: _ => if x = 92 ∨ x = 10 then .error (12, k) else adRx ext L (k + 2) x
def adM (ext second : Bool) (L : List UInt8) (k : Nat) : AdRd Adr :=
 match L.drop k with
 | [] => .ok (adNone, [], k)
 | c :: _ =>
  if 48 ≤ c.toNat ∧ c.toNat ≤ 57 then adLine L k
  else if c = 36 then .ok (⟨2, 0, [], none⟩, [], k + 1)
  else if c = 47 then adRx ext L (k + 1) 47
  else if c = 92 then adDel ext L k
  else if c = 43 ∧ second = true then adPlus L k
  else .ok (adNone, [], k)
structure Grd where
 a : Adr
 b : Adr
 no : Bool
def pcBlk (L : List UInt8) (k : Nat) : Nat := k + pcIs [32, 9] (L.drop k)
def adSecOf (c : Nat) (R : AdRd Adr) : AdRd Adr :=
 match R with
 | .error q => .error q
 | .ok q => if q.1.kind = 0 then .error (12, c) else .ok q
def adSec (ext : Bool) (L : List UInt8) (k : Nat) : AdRd Adr :=
 if (L.drop (pcBlk L k)).head? = some 44 then adSecOf (pcBlk L (pcBlk L k + 1)) (adM ext true L (pcBlk L (pcBlk L k + 1)))
 else .ok (adNone, [], k)
def adNot (L : List UInt8) (k : Nat) : Except (Nat × Nat) (Bool × Nat) :=
 if (L.drop (pcBlk L k)).head? = some 33 then
  (if (L.drop (pcBlk L (pcBlk L k + 1))).head? = some 33 then .error (15, pcBlk L (pcBlk L k + 1)) else .ok (true, pcBlk L (pcBlk L k + 1)))
 else .ok (false, pcBlk L k)
def adJoin (a : Adr) (ms : List Wm) (R : AdRd Adr) : AdRd (Adr × Adr) :=
 match R with
 | .error r => .error r
 | .ok r => .ok ((a, r.1), ms ++ r.2.1, r.2.2)
def adTwo (ext : Bool) (L : List UInt8) (R : AdRd Adr) : AdRd (Adr × Adr) :=
 match R with
 | .error q => .error q
 | .ok q => if q.1.kind = 0 then .ok ((q.1, adNone), q.2) else adJoin q.1 q.2.1 (adSec ext L q.2.2)
def gdEnd (a b : Adr) (ms : List Wm) (R : Except (Nat × Nat) (Bool × Nat)) : AdRd Grd :=
 match R with
 | .error r => .error r
 | .ok r => .ok (⟨a, b, r.1⟩, ms, r.2)
def gdOf (L : List UInt8) (R : AdRd (Adr × Adr)) : AdRd Grd :=
 match R with
 | .error q => .error q
 | .ok q => gdEnd q.1.1 q.1.2 q.2.1 (adNot L q.2.2)
def gdM (ext : Bool) (L : List UInt8) (k : Nat) : AdRd Grd := gdOf L (adTwo ext L (adM ext false L k))
theorem pcBlk_le (L : List UInt8) (k : Nat) (h : k ≤ L.length) : k ≤ pcBlk L k ∧ pcBlk L k ≤ L.length := by
 unfold pcBlk pcIs
 have := pcLen_le (fun b => ([32, 9] : List UInt8).contains b) (L.drop k)
 rw [List.length_drop] at this
 omega
theorem pcNum_le (L : List UInt8) (k : Nat) (h : k ≤ L.length) : k ≤ (pcNum L k).2.1 ∧ (pcNum L k).2.1 ≤ L.length := by
 unfold pcNum pcIs
 have := pcLen_le (fun b => pcDigits.contains b) (L.drop k)
 rw [List.length_drop] at this
 simp only
 split
 ·exact ⟨Nat.le_refl _, h⟩
 ·split
  ·exact ⟨Nat.le_refl _, h⟩
  ·simp only; omega
theorem pcBtw_le (d : UInt8) (rx : Bool) (L : List UInt8) : ∀ (n p : Nat) (acc : List UInt8), p ≤ L.length → (pcBtw d rx L n p acc).2.1 ≤ L.length
 | 0, p, acc, h => Nat.le_refl _
 | n + 1, p, acc, h => by
  cases hd : L.drop p with
  | nil => rw [pcBtw_nil hd]; exact Nat.le_refl _
  | cons c t =>
   have hl : t.length + 1 = L.length - p := by rw [← List.length_drop, hd]; rfl
   by_cases hc : c = d
   ·subst hc; rw [pcBtw_del hd]; simp only; omega
   ·obtain ⟨x, k, e, he⟩ : ∃ x k e, pcPart d rx c t p = (x, k, e) := ⟨_, _, _, rfl⟩
    by_cases h0 : e = 0
    ·subst h0
     rw [pcBtw_part hd hc he]
     obtain ⟨h1, h2, _⟩ := pcPart_ok he
     exact pcBtw_le d rx L n k (acc ++ x) (by omega)
    ·rw [pcBtw_err hd hc h0 he]
     obtain ⟨_, h2, _⟩ := pcPart_err he h0
     simp only; omega
end Go.Proofs.YtjbnogjkgmkagaaGreatDoor
namespace Go.Proofs.YtjbnogjkgmkagaaGreatDoor
open Go.RowKit
@[go_sem] theorem ta_Empty_Empty (p : Value) (w : World) : (Instr.typeAssert (.iface 133 p) 36 133 true).run Tryz.prog w = .ok (.tuple #[p, .bool true]) w := by kernel_rfl
@[go_sem] theorem ta_Empty_One (p : Value) (w : World) : (Instr.typeAssert (.iface 133 p) 36 120 true).run Tryz.prog w = .ok (.tuple #[.agg #[.int .u64 0, .int .u64 0, .int .u64 0, .int .u64 0], .bool false]) w := by kernel_rfl
@[go_sem] theorem ta_Empty_Cat (p : Value) (w : World) : (Instr.typeAssert (.iface 133 p) 36 122 true).run Tryz.prog w = .ok (.tuple #[.agg #[.slice none 0 0], .bool false]) w := by kernel_rfl
@[go_sem] theorem ta_Empty_Alt (p : Value) (w : World) : (Instr.typeAssert (.iface 133 p) 36 123 true).run Tryz.prog w = .ok (.tuple #[.agg #[.slice none 0 0], .bool false]) w := by kernel_rfl
@[go_sem] theorem ta_Empty_Rep (p : Value) (w : World) : (Instr.typeAssert (.iface 133 p) 36 125 true).run Tryz.prog w = .ok (.tuple #[.agg #[.nilIface, .int .i64 0, .int .i64 0], .bool false]) w := by kernel_rfl
@[go_sem] theorem ta_Empty_Group (p : Value) (w : World) : (Instr.typeAssert (.iface 133 p) 36 127 true).run Tryz.prog w = .ok (.tuple #[.agg #[.int .i64 0, .nilIface], .bool false]) w := by kernel_rfl
@[go_sem] theorem ta_Empty_Back (p : Value) (w : World) : (Instr.typeAssert (.iface 133 p) 36 129 true).run Tryz.prog w = .ok (.tuple #[.agg #[.int .i64 0], .bool false]) w := by kernel_rfl
@[go_sem] theorem ta_Empty_Start (p : Value) (w : World) : (Instr.typeAssert (.iface 133 p) 36 131 true).run Tryz.prog w = .ok (.tuple #[.agg #[], .bool false]) w := by kernel_rfl
@[go_sem] theorem ta_Empty_End (p : Value) (w : World) : (Instr.typeAssert (.iface 133 p) 36 132 true).run Tryz.prog w = .ok (.tuple #[.agg #[], .bool false]) w := by kernel_rfl
@[go_sem] theorem ta_One_Empty (p : Value) (w : World) : (Instr.typeAssert (.iface 120 p) 36 133 true).run Tryz.prog w = .ok (.tuple #[.agg #[], .bool false]) w := by kernel_rfl
@[go_sem] theorem ta_One_One (p : Value) (w : World) : (Instr.typeAssert (.iface 120 p) 36 120 true).run Tryz.prog w = .ok (.tuple #[p, .bool true]) w := by kernel_rfl
@[go_sem] theorem ta_One_Cat (p : Value) (w : World) : (Instr.typeAssert (.iface 120 p) 36 122 true).run Tryz.prog w = .ok (.tuple #[.agg #[.slice none 0 0], .bool false]) w := by kernel_rfl
@[go_sem] theorem ta_One_Alt (p : Value) (w : World) : (Instr.typeAssert (.iface 120 p) 36 123 true).run Tryz.prog w = .ok (.tuple #[.agg #[.slice none 0 0], .bool false]) w := by kernel_rfl
@[go_sem] theorem ta_One_Rep (p : Value) (w : World) : (Instr.typeAssert (.iface 120 p) 36 125 true).run Tryz.prog w = .ok (.tuple #[.agg #[.nilIface, .int .i64 0, .int .i64 0], .bool false]) w := by kernel_rfl
@[go_sem] theorem ta_One_Group (p : Value) (w : World) : (Instr.typeAssert (.iface 120 p) 36 127 true).run Tryz.prog w = .ok (.tuple #[.agg #[.int .i64 0, .nilIface], .bool false]) w := by kernel_rfl
@[go_sem] theorem ta_One_Back (p : Value) (w : World) : (Instr.typeAssert (.iface 120 p) 36 129 true).run Tryz.prog w = .ok (.tuple #[.agg #[.int .i64 0], .bool false]) w := by kernel_rfl
@[go_sem] theorem ta_One_Start (p : Value) (w : World) : (Instr.typeAssert (.iface 120 p) 36 131 true).run Tryz.prog w = .ok (.tuple #[.agg #[], .bool false]) w := by kernel_rfl
@[go_sem] theorem ta_One_End (p : Value) (w : World) : (Instr.typeAssert (.iface 120 p) 36 132 true).run Tryz.prog w = .ok (.tuple #[.agg #[], .bool false]) w := by kernel_rfl
@[go_sem] theorem ta_Cat_Empty (p : Value) (w : World) : (Instr.typeAssert (.iface 122 p) 36 133 true).run Tryz.prog w = .ok (.tuple #[.agg #[], .bool false]) w := by kernel_rfl
@[go_sem] theorem ta_Cat_One (p : Value) (w : World) : (Instr.typeAssert (.iface 122 p) 36 120 true).run Tryz.prog w = .ok (.tuple #[.agg #[.int .u64 0, .int .u64 0, .int .u64 0, .int .u64 0], .bool false]) w := by kernel_rfl
@[go_sem] theorem ta_Cat_Cat (p : Value) (w : World) : (Instr.typeAssert (.iface 122 p) 36 122 true).run Tryz.prog w = .ok (.tuple #[p, .bool true]) w := by kernel_rfl
@[go_sem] theorem ta_Cat_Alt (p : Value) (w : World) : (Instr.typeAssert (.iface 122 p) 36 123 true).run Tryz.prog w = .ok (.tuple #[.agg #[.slice none 0 0], .bool false]) w := by kernel_rfl
@[go_sem] theorem ta_Cat_Rep (p : Value) (w : World) : (Instr.typeAssert (.iface 122 p) 36 125 true).run Tryz.prog w = .ok (.tuple #[.agg #[.nilIface, .int .i64 0, .int .i64 0], .bool false]) w := by kernel_rfl
@[go_sem] theorem ta_Cat_Group (p : Value) (w : World) : (Instr.typeAssert (.iface 122 p) 36 127 true).run Tryz.prog w = .ok (.tuple #[.agg #[.int .i64 0, .nilIface], .bool false]) w := by kernel_rfl
@[go_sem] theorem ta_Cat_Back (p : Value) (w : World) : (Instr.typeAssert (.iface 122 p) 36 129 true).run Tryz.prog w = .ok (.tuple #[.agg #[.int .i64 0], .bool false]) w := by kernel_rfl
@[go_sem] theorem ta_Cat_Start (p : Value) (w : World) : (Instr.typeAssert (.iface 122 p) 36 131 true).run Tryz.prog w = .ok (.tuple #[.agg #[], .bool false]) w := by kernel_rfl
@[go_sem] theorem ta_Cat_End (p : Value) (w : World) : (Instr.typeAssert (.iface 122 p) 36 132 true).run Tryz.prog w = .ok (.tuple #[.agg #[], .bool false]) w := by kernel_rfl
@[go_sem] theorem ta_Alt_Empty (p : Value) (w : World) : (Instr.typeAssert (.iface 123 p) 36 133 true).run Tryz.prog w = .ok (.tuple #[.agg #[], .bool false]) w := by kernel_rfl
@[go_sem] theorem ta_Alt_One (p : Value) (w : World) : (Instr.typeAssert (.iface 123 p) 36 120 true).run Tryz.prog w = .ok (.tuple #[.agg #[.int .u64 0, .int .u64 0, .int .u64 0, .int .u64 0], .bool false]) w := by kernel_rfl
@[go_sem] theorem ta_Alt_Cat (p : Value) (w : World) : (Instr.typeAssert (.iface 123 p) 36 122 true).run Tryz.prog w = .ok (.tuple #[.agg #[.slice none 0 0], .bool false]) w := by kernel_rfl
@[go_sem] theorem ta_Alt_Alt (p : Value) (w : World) : (Instr.typeAssert (.iface 123 p) 36 123 true).run Tryz.prog w = .ok (.tuple #[p, .bool true]) w := by kernel_rfl
@[go_sem] theorem ta_Alt_Rep (p : Value) (w : World) : (Instr.typeAssert (.iface 123 p) 36 125 true).run Tryz.prog w = .ok (.tuple #[.agg #[.nilIface, .int .i64 0, .int .i64 0], .bool false]) w := by kernel_rfl
@[go_sem] theorem ta_Alt_Group (p : Value) (w : World) : (Instr.typeAssert (.iface 123 p) 36 127 true).run Tryz.prog w = .ok (.tuple #[.agg #[.int .i64 0, .nilIface], .bool false]) w := by kernel_rfl
@[go_sem] theorem ta_Alt_Back (p : Value) (w : World) : (Instr.typeAssert (.iface 123 p) 36 129 true).run Tryz.prog w = .ok (.tuple #[.agg #[.int .i64 0], .bool false]) w := by kernel_rfl
@[go_sem] theorem ta_Alt_Start (p : Value) (w : World) : (Instr.typeAssert (.iface 123 p) 36 131 true).run Tryz.prog w = .ok (.tuple #[.agg #[], .bool false]) w := by kernel_rfl
@[go_sem] theorem ta_Alt_End (p : Value) (w : World) : (Instr.typeAssert (.iface 123 p) 36 132 true).run Tryz.prog w = .ok (.tuple #[.agg #[], .bool false]) w := by kernel_rfl
@[go_sem] theorem ta_Rep_Empty (p : Value) (w : World) : (Instr.typeAssert (.iface 125 p) 36 133 true).run Tryz.prog w = .ok (.tuple #[.agg #[], .bool false]) w := by kernel_rfl
@[go_sem] theorem ta_Rep_One (p : Value) (w : World) : (Instr.typeAssert (.iface 125 p) 36 120 true).run Tryz.prog w = .ok (.tuple #[.agg #[.int .u64 0, .int .u64 0, .int .u64 0, .int .u64 0], .bool false]) w := by kernel_rfl
@[go_sem] theorem ta_Rep_Cat (p : Value) (w : World) : (Instr.typeAssert (.iface 125 p) 36 122 true).run Tryz.prog w = .ok (.tuple #[.agg #[.slice none 0 0], .bool false]) w := by kernel_rfl
@[go_sem] theorem ta_Rep_Alt (p : Value) (w : World) : (Instr.typeAssert (.iface 125 p) 36 123 true).run Tryz.prog w = .ok (.tuple #[.agg #[.slice none 0 0], .bool false]) w := by kernel_rfl
@[go_sem] theorem ta_Rep_Rep (p : Value) (w : World) : (Instr.typeAssert (.iface 125 p) 36 125 true).run Tryz.prog w = .ok (.tuple #[p, .bool true]) w := by kernel_rfl
@[go_sem] theorem ta_Rep_Group (p : Value) (w : World) : (Instr.typeAssert (.iface 125 p) 36 127 true).run Tryz.prog w = .ok (.tuple #[.agg #[.int .i64 0, .nilIface], .bool false]) w := by kernel_rfl
@[go_sem] theorem ta_Rep_Back (p : Value) (w : World) : (Instr.typeAssert (.iface 125 p) 36 129 true).run Tryz.prog w = .ok (.tuple #[.agg #[.int .i64 0], .bool false]) w := by kernel_rfl
@[go_sem] theorem ta_Rep_Start (p : Value) (w : World) : (Instr.typeAssert (.iface 125 p) 36 131 true).run Tryz.prog w = .ok (.tuple #[.agg #[], .bool false]) w := by kernel_rfl
@[go_sem] theorem ta_Rep_End (p : Value) (w : World) : (Instr.typeAssert (.iface 125 p) 36 132 true).run Tryz.prog w = .ok (.tuple #[.agg #[], .bool false]) w := by kernel_rfl
@[go_sem] theorem ta_Group_Empty (p : Value) (w : World) : (Instr.typeAssert (.iface 127 p) 36 133 true).run Tryz.prog w = .ok (.tuple #[.agg #[], .bool false]) w := by kernel_rfl
@[go_sem] theorem ta_Group_One (p : Value) (w : World) : (Instr.typeAssert (.iface 127 p) 36 120 true).run Tryz.prog w = .ok (.tuple #[.agg #[.int .u64 0, .int .u64 0, .int .u64 0, .int .u64 0], .bool false]) w := by kernel_rfl
@[go_sem] theorem ta_Group_Cat (p : Value) (w : World) : (Instr.typeAssert (.iface 127 p) 36 122 true).run Tryz.prog w = .ok (.tuple #[.agg #[.slice none 0 0], .bool false]) w := by kernel_rfl
@[go_sem] theorem ta_Group_Alt (p : Value) (w : World) : (Instr.typeAssert (.iface 127 p) 36 123 true).run Tryz.prog w = .ok (.tuple #[.agg #[.slice none 0 0], .bool false]) w := by kernel_rfl
@[go_sem] theorem ta_Group_Rep (p : Value) (w : World) : (Instr.typeAssert (.iface 127 p) 36 125 true).run Tryz.prog w = .ok (.tuple #[.agg #[.nilIface, .int .i64 0, .int .i64 0], .bool false]) w := by kernel_rfl
@[go_sem] theorem ta_Group_Group (p : Value) (w : World) : (Instr.typeAssert (.iface 127 p) 36 127 true).run Tryz.prog w = .ok (.tuple #[p, .bool true]) w := by kernel_rfl
@[go_sem] theorem ta_Group_Back (p : Value) (w : World) : (Instr.typeAssert (.iface 127 p) 36 129 true).run Tryz.prog w = .ok (.tuple #[.agg #[.int .i64 0], .bool false]) w := by kernel_rfl
@[go_sem] theorem ta_Group_Start (p : Value) (w : World) : (Instr.typeAssert (.iface 127 p) 36 131 true).run Tryz.prog w = .ok (.tuple #[.agg #[], .bool false]) w := by kernel_rfl
@[go_sem] theorem ta_Group_End (p : Value) (w : World) : (Instr.typeAssert (.iface 127 p) 36 132 true).run Tryz.prog w = .ok (.tuple #[.agg #[], .bool false]) w := by kernel_rfl
@[go_sem] theorem ta_Back_Empty (p : Value) (w : World) : (Instr.typeAssert (.iface 129 p) 36 133 true).run Tryz.prog w = .ok (.tuple #[.agg #[], .bool false]) w := by kernel_rfl
@[go_sem] theorem ta_Back_One (p : Value) (w : World) : (Instr.typeAssert (.iface 129 p) 36 120 true).run Tryz.prog w = .ok (.tuple #[.agg #[.int .u64 0, .int .u64 0, .int .u64 0, .int .u64 0], .bool false]) w := by kernel_rfl
@[go_sem] theorem ta_Back_Cat (p : Value) (w : World) : (Instr.typeAssert (.iface 129 p) 36 122 true).run Tryz.prog w = .ok (.tuple #[.agg #[.slice none 0 0], .bool false]) w := by kernel_rfl
@[go_sem] theorem ta_Back_Alt (p : Value) (w : World) : (Instr.typeAssert (.iface 129 p) 36 123 true).run Tryz.prog w = .ok (.tuple #[.agg #[.slice none 0 0], .bool false]) w := by kernel_rfl
@[go_sem] theorem ta_Back_Rep (p : Value) (w : World) : (Instr.typeAssert (.iface 129 p) 36 125 true).run Tryz.prog w = .ok (.tuple #[.agg #[.nilIface, .int .i64 0, .int .i64 0], .bool false]) w := by kernel_rfl
@[go_sem] theorem ta_Back_Group (p : Value) (w : World) : (Instr.typeAssert (.iface 129 p) 36 127 true).run Tryz.prog w = .ok (.tuple #[.agg #[.int .i64 0, .nilIface], .bool false]) w := by kernel_rfl
@[go_sem] theorem ta_Back_Back (p : Value) (w : World) : (Instr.typeAssert (.iface 129 p) 36 129 true).run Tryz.prog w = .ok (.tuple #[p, .bool true]) w := by kernel_rfl
@[go_sem] theorem ta_Back_Start (p : Value) (w : World) : (Instr.typeAssert (.iface 129 p) 36 131 true).run Tryz.prog w = .ok (.tuple #[.agg #[], .bool false]) w := by kernel_rfl
@[go_sem] theorem ta_Back_End (p : Value) (w : World) : (Instr.typeAssert (.iface 129 p) 36 132 true).run Tryz.prog w = .ok (.tuple #[.agg #[], .bool false]) w := by kernel_rfl
@[go_sem] theorem ta_Start_Empty (p : Value) (w : World) : (Instr.typeAssert (.iface 131 p) 36 133 true).run Tryz.prog w = .ok (.tuple #[.agg #[], .bool false]) w := by kernel_rfl
@[go_sem] theorem ta_Start_One (p : Value) (w : World) : (Instr.typeAssert (.iface 131 p) 36 120 true).run Tryz.prog w = .ok (.tuple #[.agg #[.int .u64 0, .int .u64 0, .int .u64 0, .int .u64 0], .bool false]) w := by kernel_rfl
@[go_sem] theorem ta_Start_Cat (p : Value) (w : World) : (Instr.typeAssert (.iface 131 p) 36 122 true).run Tryz.prog w = .ok (.tuple #[.agg #[.slice none 0 0], .bool false]) w := by kernel_rfl
@[go_sem] theorem ta_Start_Alt (p : Value) (w : World) : (Instr.typeAssert (.iface 131 p) 36 123 true).run Tryz.prog w = .ok (.tuple #[.agg #[.slice none 0 0], .bool false]) w := by kernel_rfl
@[go_sem] theorem ta_Start_Rep (p : Value) (w : World) : (Instr.typeAssert (.iface 131 p) 36 125 true).run Tryz.prog w = .ok (.tuple #[.agg #[.nilIface, .int .i64 0, .int .i64 0], .bool false]) w := by kernel_rfl
@[go_sem] theorem ta_Start_Group (p : Value) (w : World) : (Instr.typeAssert (.iface 131 p) 36 127 true).run Tryz.prog w = .ok (.tuple #[.agg #[.int .i64 0, .nilIface], .bool false]) w := by kernel_rfl
@[go_sem] theorem ta_Start_Back (p : Value) (w : World) : (Instr.typeAssert (.iface 131 p) 36 129 true).run Tryz.prog w = .ok (.tuple #[.agg #[.int .i64 0], .bool false]) w := by kernel_rfl
@[go_sem] theorem ta_Start_Start (p : Value) (w : World) : (Instr.typeAssert (.iface 131 p) 36 131 true).run Tryz.prog w = .ok (.tuple #[p, .bool true]) w := by kernel_rfl
@[go_sem] theorem ta_Start_End (p : Value) (w : World) : (Instr.typeAssert (.iface 131 p) 36 132 true).run Tryz.prog w = .ok (.tuple #[.agg #[], .bool false]) w := by kernel_rfl
@[go_sem] theorem ta_End_Empty (p : Value) (w : World) : (Instr.typeAssert (.iface 132 p) 36 133 true).run Tryz.prog w = .ok (.tuple #[.agg #[], .bool false]) w := by kernel_rfl
@[go_sem] theorem ta_End_One (p : Value) (w : World) : (Instr.typeAssert (.iface 132 p) 36 120 true).run Tryz.prog w = .ok (.tuple #[.agg #[.int .u64 0, .int .u64 0, .int .u64 0, .int .u64 0], .bool false]) w := by kernel_rfl
@[go_sem] theorem ta_End_Cat (p : Value) (w : World) : (Instr.typeAssert (.iface 132 p) 36 122 true).run Tryz.prog w = .ok (.tuple #[.agg #[.slice none 0 0], .bool false]) w := by kernel_rfl
@[go_sem] theorem ta_End_Alt (p : Value) (w : World) : (Instr.typeAssert (.iface 132 p) 36 123 true).run Tryz.prog w = .ok (.tuple #[.agg #[.slice none 0 0], .bool false]) w := by kernel_rfl
@[go_sem] theorem ta_End_Rep (p : Value) (w : World) : (Instr.typeAssert (.iface 132 p) 36 125 true).run Tryz.prog w = .ok (.tuple #[.agg #[.nilIface, .int .i64 0, .int .i64 0], .bool false]) w := by kernel_rfl
@[go_sem] theorem ta_End_Group (p : Value) (w : World) : (Instr.typeAssert (.iface 132 p) 36 127 true).run Tryz.prog w = .ok (.tuple #[.agg #[.int .i64 0, .nilIface], .bool false]) w := by kernel_rfl
@[go_sem] theorem ta_End_Back (p : Value) (w : World) : (Instr.typeAssert (.iface 132 p) 36 129 true).run Tryz.prog w = .ok (.tuple #[.agg #[.int .i64 0], .bool false]) w := by kernel_rfl
@[go_sem] theorem ta_End_Start (p : Value) (w : World) : (Instr.typeAssert (.iface 132 p) 36 131 true).run Tryz.prog w = .ok (.tuple #[.agg #[], .bool false]) w := by kernel_rfl
@[go_sem] theorem ta_End_End (p : Value) (w : World) : (Instr.typeAssert (.iface 132 p) 36 132 true).run Tryz.prog w = .ok (.tuple #[p, .bool true]) w := by kernel_rfl
@[go_sem] theorem ta_nil_Empty (w : World) : (Instr.typeAssert .nilIface 36 133 true).run Tryz.prog w = .ok (.tuple #[.agg #[], .bool false]) w := by kernel_rfl
@[go_sem] theorem ta_nil_One (w : World) : (Instr.typeAssert .nilIface 36 120 true).run Tryz.prog w = .ok (.tuple #[.agg #[.int .u64 0, .int .u64 0, .int .u64 0, .int .u64 0], .bool false]) w := by kernel_rfl
@[go_sem] theorem ta_nil_Cat (w : World) : (Instr.typeAssert .nilIface 36 122 true).run Tryz.prog w = .ok (.tuple #[.agg #[.slice none 0 0], .bool false]) w := by kernel_rfl
@[go_sem] theorem ta_nil_Alt (w : World) : (Instr.typeAssert .nilIface 36 123 true).run Tryz.prog w = .ok (.tuple #[.agg #[.slice none 0 0], .bool false]) w := by kernel_rfl
@[go_sem] theorem ta_nil_Rep (w : World) : (Instr.typeAssert .nilIface 36 125 true).run Tryz.prog w = .ok (.tuple #[.agg #[.nilIface, .int .i64 0, .int .i64 0], .bool false]) w := by kernel_rfl
@[go_sem] theorem ta_nil_Group (w : World) : (Instr.typeAssert .nilIface 36 127 true).run Tryz.prog w = .ok (.tuple #[.agg #[.int .i64 0, .nilIface], .bool false]) w := by kernel_rfl
@[go_sem] theorem ta_nil_Back (w : World) : (Instr.typeAssert .nilIface 36 129 true).run Tryz.prog w = .ok (.tuple #[.agg #[.int .i64 0], .bool false]) w := by kernel_rfl
@[go_sem] theorem ta_nil_Start (w : World) : (Instr.typeAssert .nilIface 36 131 true).run Tryz.prog w = .ok (.tuple #[.agg #[], .bool false]) w := by kernel_rfl
@[go_sem] theorem ta_nil_End (w : World) : (Instr.typeAssert .nilIface 36 132 true).run Tryz.prog w = .ok (.tuple #[.agg #[], .bool false]) w := by kernel_rfl
end Go.Proofs.YtjbnogjkgmkagaaGreatDoor
namespace Go.Proofs.YtjbnogjkgmkagaaGreatDoor
open Go.RowKit
def NdX (F : Nat → Prop) (w : World) (d : Nd) (v : Value) : Prop := ∃ n, NdAt F n w d v
def NdRw (F : Nat → Prop) (w : World) (l : List Nd) (a : Option Addr) (cap : Nat) : Prop :=
 l.length ≤ cap ∧ cap ≤ maxLen ∧ (0 < l.length → ∃ b o, a = some ⟨b, o, none⟩ ∧ F b ∧ b < w.heap.size ∧ ∀ i (h : i < l.length), ∃ u, w.cell? ⟨b, o + i, none⟩ = some u ∧ NdX F w l[i] u)
theorem NdX.keep {F G : Nat → Prop} {w w' : World} (hs : w.heap.size ≤ w'.heap.size) (hF : ∀ b, F b → b < w.heap.size → G b ∧ ∀ o, w'.cell? ⟨b, o, none⟩ = w.cell? ⟨b, o, none⟩) {d : Nd} {v : Value} (h : NdX F w d v) : NdX G w' d v := by
 obtain ⟨n, h⟩ := h
 exact ⟨n, NdAt.keep hs hF n d v h⟩
theorem NdRw.keep {F G : Nat → Prop} {w w' : World} (hs : w.heap.size ≤ w'.heap.size) (hF : ∀ b, F b → b < w.heap.size → G b ∧ ∀ o, w'.cell? ⟨b, o, none⟩ = w.cell? ⟨b, o, none⟩) {l : List Nd} {a : Option Addr} {cap : Nat} (h : NdRw F w l a cap) : NdRw G w' l a cap := by
 refine ⟨h.1, h.2.1, fun h0 => ?_⟩
 obtain ⟨b, o, rfl, hf, hb, hx⟩ := h.2.2 h0
 refine ⟨b, o, rfl, (hF b hf hb).1, Nat.lt_of_lt_of_le hb hs, fun i hi => ?_⟩
 obtain ⟨u, hu, hr⟩ := hx i hi
 exact ⟨u, ((hF b hf hb).2 _).trans hu, hr.keep hs hF⟩
theorem NdX.below {F : Nat → Prop} {w w' : World} (hb : Below w.heap.size w w') {d : Nd} {v : Value} (h : NdX F w d v) : NdX F w' d v :=
 h.keep hb.size (fun b hf hlt => ⟨hf, fun o => hb.cell (p := ⟨b, o, none⟩) hlt⟩)
theorem NdRw.below {F : Nat → Prop} {w w' : World} (hb : Below w.heap.size w w') {l : List Nd} {a : Option Addr} {cap : Nat} (h : NdRw F w l a cap) : NdRw F w' l a cap :=
 h.keep hb.size (fun b hf hlt => ⟨hf, fun o => hb.cell (p := ⟨b, o, none⟩) hlt⟩)
theorem NdX.drew {F : Nat → Prop} {w : World} {d : Nd} {v : Value} (h : NdX F w d v) : NdX F w.drew d v := h.below (Below.drew (Below.refl _ _))
theorem NdRw.drew {F : Nat → Prop} {w : World} {l : List Nd} {a : Option Addr} {cap : Nat} (h : NdRw F w l a cap) : NdRw F w.drew l a cap := h.below (Below.drew (Below.refl _ _))
theorem NdRw.nil (F : Nat → Prop) (w : World) (a : Option Addr) (cap : Nat) (h : cap ≤ maxLen) : NdRw F w [] a cap := ⟨Nat.zero_le _, h, fun h => absurd h (by simp)⟩
theorem NdRw.of {F : Nat → Prop} {n : Nat} {w : World} {l : List Nd} {a : Option Addr} {cap : Nat} (h : NdRow F n w l a cap) : NdRw F w l a cap := by
 refine ⟨h.1, h.2.1, fun h0 => ?_⟩
 obtain ⟨b, o, rfl, hf, hb, hx⟩ := h.2.2 h0
 refine ⟨b, o, rfl, hf, hb, fun i hi => ?_⟩
 obtain ⟨u, hu, hr⟩ := hx i hi
 exact ⟨u, hu, n, hr⟩
theorem NdRw.tail {F : Nat → Prop} {w : World} {d : Nd} {l : List Nd} {a : Option Addr} {cap : Nat} (h : NdRw F w (d :: l) a cap) :
  ∃ b o u, a = some ⟨b, o, none⟩ ∧ F b ∧ b < w.heap.size ∧ 1 ≤ cap ∧ w.cell? ⟨b, o, none⟩ = some u ∧ NdX F w d u ∧ NdRw F w l (some ⟨b, o + 1, none⟩) (cap - 1) := by
 obtain ⟨b, o, rfl, hf, hb, hx⟩ := h.2.2 (by simp)
 obtain ⟨u, hu, hr⟩ := hx 0 (by simp)
 have h1 := h.1
 have h2 := h.2.1
 simp at h1
 refine ⟨b, o, u, rfl, hf, hb, by omega, hu, hr, by omega, by omega, fun _ => ⟨b, o + 1, rfl, hf, hb, fun i hi => ?_⟩⟩
 obtain ⟨u', hu', hr'⟩ := hx (i + 1) (by simpa using hi)
 exact ⟨u', by rw [← hu', Nat.add_assoc, Nat.add_comm 1 i], by simpa using hr'⟩
theorem ndrw_one {F G : Nat → Prop} {w : World} {d : Nd} {u : Value} {T : TypeId} {k : Nat} (hk : w.heap.size = k) (h : NdX F w d u) (hG : ∀ b, F b → b < w.heap.size → G b) (hn : G w.heap.size) : NdRw G (w.alloc (.cells #[u] T)) [d] (some ⟨k, 0, none⟩) 1 := by
 subst hk
 have hb := Blk.new w #[u] T _ rfl
 refine ⟨Nat.le_refl _, by decide, fun _ => ⟨w.heap.size, 0, rfl, hn, hb.lt, fun i hi => ?_⟩⟩
 obtain rfl : i = 0 := by simp at hi; exact hi
 have hB := (Below.refl w.heap.size w).alloc (Nat.le_refl _) (.cells #[u] T)
 exact ⟨u, (hb.cell 0).trans rfl, h.keep hB.size (fun b hf hlt => ⟨hG b hf hlt, fun o => hB.cell (p := ⟨b, o, none⟩) hlt⟩)⟩
set_option linter.unusedSimpArgs false in
set_option maxRecDepth 100000 in
set_option maxHeartbeats 2000000 in
theorem inner_any {F : Nat → Prop} (d : Nd) (v : Value) (w : World) (h : NdX F w d v) :
  Calls Tryz.prog 42 #[v] w fun e w' => ∃ a cap, e = .returned (.slice a (nkids d).length cap) ∧ NdRw (fun b => F b ∨ w.heap.size ≤ b) w' (nkids d) a cap ∧ Below w.heap.size w w' := by
 obtain ⟨n, h⟩ := h
 cases n with
 | zero => exact h.elim
 | succ n =>
  cases d with
  | empty =>
   rcases h with rfl | rfl
   ·go_enter Tryz.func42, Tryz.ntmps42
    go_wp2_with fail
    go_ret
    exact ⟨none, 0, rfl, NdRw.nil _ _ _ _ (by decide), Below.refl _ _⟩
   ·go_enter Tryz.func42, Tryz.ntmps42
    go_wp2_with fail
    go_ret
    exact ⟨none, 0, rfl, NdRw.nil _ _ _ _ (by decide), Below.refl _ _⟩
  | one s =>
   obtain rfl := h
   go_enter Tryz.func42, Tryz.ntmps42
   go_wp2_with fail
   go_ret
   exact ⟨none, 0, rfl, NdRw.nil _ _ _ _ (by decide), Below.refl _ _⟩
  | back num =>
   obtain rfl := h
   go_enter Tryz.func42, Tryz.ntmps42
   go_wp2_with fail
   go_ret
   exact ⟨none, 0, rfl, NdRw.nil _ _ _ _ (by decide), Below.refl _ _⟩
  | start =>
   obtain rfl := h
   go_enter Tryz.func42, Tryz.ntmps42
   go_wp2_with fail
   go_ret
   exact ⟨none, 0, rfl, NdRw.nil _ _ _ _ (by decide), Below.refl _ _⟩
  | fin =>
   obtain rfl := h
   go_enter Tryz.func42, Tryz.ntmps42
   go_wp2_with fail
   go_ret
   exact ⟨none, 0, rfl, NdRw.nil _ _ _ _ (by decide), Below.refl _ _⟩
  | cat l =>
   obtain ⟨a, cap, rfl, hx⟩ := h
   have hR : NdRw F w l a cap := NdRw.of (n := n) hx
   clear hx
   go_enter Tryz.func42, Tryz.ntmps42
   go_wp2_with fail
   go_ret
   have hB := (Below.refl w.heap.size w).alloc (Nat.le_refl _) (.cells #[.slice a l.length cap] 122)
   exact ⟨a, cap, rfl, hR.keep hB.size (fun b hf hlt => ⟨.inl hf, fun o => hB.cell (p := ⟨b, o, none⟩) hlt⟩), hB⟩
  | alt l =>
   obtain ⟨a, cap, rfl, hx⟩ := h
   have hR : NdRw F w l a cap := NdRw.of (n := n) hx
   clear hx
   go_enter Tryz.func42, Tryz.ntmps42
   go_wp2_with fail
   go_ret
   have hB := (Below.refl w.heap.size w).alloc (Nat.le_refl _) (.cells #[.slice a l.length cap] 123)
   exact ⟨a, cap, rfl, hR.keep hB.size (fun b hf hlt => ⟨.inl hf, fun o => hB.cell (p := ⟨b, o, none⟩) hlt⟩), hB⟩
  | rep d mn mx =>
   obtain ⟨u, rfl, hu⟩ := h
   have hX : NdX F w d u := ⟨n, hu⟩
   rcases nd_shape hu with ⟨T, q, rfl⟩ | rfl
   ·clear hu
    go_enter Tryz.func42, Tryz.ntmps42
    go_wp2_with fail
    go_ret
    have hB := (Below.refl w.heap.size w).alloc (Nat.le_refl _) (.cells #[.iface T q, .int .i64 mn, .int .i64 mx] 125)
    refine ⟨_, _, rfl, ndrw_one (G := fun b => F b ∨ w.heap.size ≤ b) (by simp) (hX.below hB) (fun b hf _ => .inl hf) (.inr hB.size), hB.alloc hB.size _⟩
   ·clear hu
    go_enter Tryz.func42, Tryz.ntmps42
    go_wp2_with fail
    go_ret
    have hB := (Below.refl w.heap.size w).alloc (Nat.le_refl _) (.cells #[.nilIface, .int .i64 mn, .int .i64 mx] 125)
    refine ⟨_, _, rfl, ndrw_one (G := fun b => F b ∨ w.heap.size ≤ b) (by simp) (hX.below hB) (fun b hf _ => .inl hf) (.inr hB.size), hB.alloc hB.size _⟩
  | group num d =>
   obtain ⟨u, rfl, hu⟩ := h
   have hX : NdX F w d u := ⟨n, hu⟩
   rcases nd_shape hu with ⟨T, q, rfl⟩ | rfl
   ·clear hu
    go_enter Tryz.func42, Tryz.ntmps42
    go_wp2_with fail
    go_ret
    have hB := (Below.refl w.heap.size w).alloc (Nat.le_refl _) (.cells #[.int .i64 num, .iface T q] 127)
    refine ⟨_, _, rfl, ndrw_one (G := fun b => F b ∨ w.heap.size ≤ b) (by simp) (hX.below hB) (fun b hf _ => .inl hf) (.inr hB.size), hB.alloc hB.size _⟩
   ·clear hu
    go_enter Tryz.func42, Tryz.ntmps42
    go_wp2_with fail
    go_ret
    have hB := (Below.refl w.heap.size w).alloc (Nat.le_refl _) (.cells #[.int .i64 num, .nilIface] 127)
    refine ⟨_, _, rfl, ndrw_one (G := fun b => F b ∨ w.heap.size ≤ b) (by simp) (hX.below hB) (fun b hf _ => .inl hf) (.inr hB.size), hB.alloc hB.size _⟩
end Go.Proofs.YtjbnogjkgmkagaaGreatDoor
namespace Go.Proofs.YtjbnogjkgmkagaaGreatDoor
open Go Go.RowKit
theorem own_row_same {w w' : World} {base : Nat} {e : TypeId} {size : Nat} {v : Value} {n : Nat} {xs : List Value} (h : w.ownsRow base e size v n xs) (hb : ∀ g, v.ownBlock = some g → w'.heap[g]? = w.heap[g]?) : w'.ownsRow base e size v n xs := by
 obtain ⟨h1, h2⟩ := h
 refine ⟨h1, ?_⟩
 rcases h2 with h2 | ⟨g, cap, cur, rfl, b, c, d⟩
 ·exact .inl h2
 ·exact .inr ⟨g, cap, cur, rfl, b, (hb g rfl).trans c, d⟩
theorem row_cap {w : World} {base : Nat} {e : TypeId} {size g n cap m : Nat} {xs : List Value} (h : w.ownsRow base e size (.slice (some ⟨g, 0, none⟩) n cap) m xs) : n ≤ cap := by
 rcases h.2 with ⟨e, _⟩ | ⟨g5, cap5, cur5, e, _, _, h5, _⟩
 ·cases e
 ·simp only [Value.slice.injEq] at e
  omega
end Go.Proofs.YtjbnogjkgmkagaaGreatDoor
