/- Plain mathematics of bracket expressions: what stands at a place; the whole expression. No program is named here. -/
import Derived.Test.YtehikndlcepkgaaDoorOctMath
import Derived.Test.YtehikndlcepkgaaDoorOctClass
import Derived.Test.YtehikndlcepkgaaDoorSpMath
namespace Go.Proofs.YtehikndlcepkgaaDoor

/-- The byte at a place; 0 where there is none. -/
def byt (s : List UInt8) (k : Nat) : Nat := (s.getD k 0).toNat
/-- Where the first pair (kind, closing bracket) stands, from a place on. -/
def fnd (s : List UInt8) (kind : Nat) (e : Nat) : Option Nat :=
  if e + 1 < s.length then (if byt s e = kind ∧ byt s (e + 1) = 93 then some e else fnd s kind (e + 1)) else none
termination_by s.length - e

/-- What stands at a place: its bytes, whether it may begin or end a range, the place behind it; the error, and its place. -/
structure Itm where
  set : OSet
  may : Bool
  next : Nat
  err : Nat
  place : Nat

/-- Does a bracketed item begin at k? -/
def opens (s : List UInt8) (k : Nat) : Bool := decide (byt s k = 91) && decide (k + 1 < s.length) && (decide (byt s (k + 1) = 58) || decide (byt s (k + 1) = 61) || decide (byt s (k + 1) = 46))
def sub (s : List UInt8) (i j : Nat) : List UInt8 := (s.drop i).take (j - i)
/-- A bracketed item of a kind, that ends at e. -/
def boxed (s : List UInt8) (k e : Nat) : Itm :=
  if byt s (k + 1) = 58 then (if clsOk (sub s (k + 2) e) then ⟨clsSet (sub s (k + 2) e), false, e + 2, 0, 0⟩ else ⟨oz, false, 0, 6, k⟩)
  else if e = k + 3 then ⟨oSpan (byt s (k + 2)) (byt s (k + 2)), decide (byt s (k + 1) = 46), e + 2, 0, 0⟩
  else ⟨oz, false, 0, 6, k⟩
/-- The place from which on the end of a bracketed item is looked for. -/
def from1 (s : List UInt8) (k : Nat) : Nat := if byt s (k + 1) = 58 then k + 2 else k + 3
def itm (s : List UInt8) (k : Nat) : Itm :=
  if s.length ≤ k then ⟨oz, false, 0, 5, s.length⟩
  else if opens s k then (match fnd s (byt s (k + 1)) (from1 s k) with
    | some e => boxed s k e
    | none => ⟨oz, false, 0, 5, s.length⟩)
  else ⟨oSpan (byt s k) (byt s k), true, k + 1, 0, 0⟩

theorem fnd_ge (s : List UInt8) (kind : Nat) (e x : Nat) (h : fnd s kind e = some x) : e ≤ x ∧ x + 1 < s.length := by
  fun_induction fnd s kind e with
  | case1 e h1 h2 => simp at h; omega
  | case2 e h1 h2 ih => have := ih h; omega
  | case3 e h1 => simp at h
/-- An item without an error ends behind its beginning, within the text. -/
theorem itm_next (s : List UInt8) (k : Nat) (h : (itm s k).err = 0) : k < (itm s k).next ∧ (itm s k).next ≤ s.length := by
  unfold itm at h ⊢
  split at h
  · simp at h
  · rename_i hk
    rw [if_neg hk]
    split at h
    · rename_i ho
      rw [if_pos ho]
      split at h
      · rename_i e he
        have hge := fnd_ge _ _ _ _ he
        have hf : k + 2 ≤ from1 s k := by unfold from1; split <;> omega
        unfold boxed at h ⊢
        split at h
        · split at h
          · rename_i h1 h2
            rw [if_pos h1, if_pos h2]
            simp only
            omega
          · simp at h
        · split at h
          · rename_i h1 h2
            rw [if_neg h1, if_pos h2]
            simp only
            omega
          · simp at h
      · simp at h
    · rename_i ho
      rw [if_neg ho]
      simp only
      omega

/-- The least byte of a set: 0 if there is none. -/
def lst (s : OSet) : Nat := match sps s with
  | [] => 0
  | p :: _ => p.1
/-- What stands at k, a range if one begins there: its set, and the place behind; or the error's number, and its place. -/
def elm (s : List UInt8) (k : Nat) : Except (Nat × Nat) (OSet × Nat) :=
  let a := itm s k
  if a.err ≠ 0 then .error (a.err, a.place)
  else if a.next + 1 < s.length ∧ byt s a.next = 45 ∧ byt s (a.next + 1) ≠ 93 then
    let b := itm s (a.next + 1)
    if b.err ≠ 0 then .error (b.err, b.place)
    else if a.may && b.may && decide (lst a.set ≤ lst b.set) then .ok (oSpan (lst a.set) (lst b.set), b.next)
    else .error (1, k)
  else .ok (a.set, a.next)
theorem elm_next (s : List UInt8) (k : Nat) (t : OSet) (j : Nat) (h : elm s k = .ok (t, j)) : k < j ∧ j ≤ s.length := by
  unfold elm at h
  simp only at h
  split at h
  · cases h
  · rename_i h1
    have h2 := itm_next s k (by simpa using h1)
    split at h
    · split at h
      · cases h
      · rename_i h3
        have h4 := itm_next s _ (by simpa using h3)
        split at h
        · injection h with h; injection h with _ h; omega
        · cases h
    · injection h with h; injection h with _ h; omega
set_option linter.unusedVariables false in
/-- The rest of an expression from k on: its set beside what was there, and the place behind it; or the error. -/
def rst (s : List UInt8) (first : Bool) (k : Nat) (out : OSet) : Except (Nat × Nat) (OSet × Nat) :=
  if first = false ∧ k < s.length ∧ byt s k = 93 then .ok (out, k + 1)
  else match h : elm s k with
    | .error e => .error e
    | .ok (t, j) => rst s false j (out ||| t)
termination_by s.length - k
decreasing_by have := elm_next s k t j h; omega
/-- The whole: the set, the place behind, the error. -/
def prs (s : List UInt8) (k : Int) : OSet × Int × Nat :=
  if k < 0 ∨ (s.length : Int) < k then (oz, 0, 1)
  else
    let k := k.toNat
    let not := decide (k < s.length) && decide (byt s k = 94)
    match rst s true (if not then k + 1 else k) oz with
    | .error (e, p) => (oz, p, e)
    | .ok (t, j) => (if not then ~~~t else t, j, 0)

end Go.Proofs.YtehikndlcepkgaaDoor
