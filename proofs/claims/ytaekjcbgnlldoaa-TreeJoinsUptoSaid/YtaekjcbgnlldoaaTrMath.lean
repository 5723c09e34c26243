/- Plain mathematics of the document's trees: a node, its parts, what is asked of it. No program is named here. -/
import Derived.Test.YtaekjcbgnlldoaaOctMath
namespace Go.Proofs.Ytaekjcbgnlldoaa

/-- A node of the document: its kind, its set, its bounds and number, its parts. -/
inductive Tr where
  | mk (kind : Int) (set : OSet) (mn mx num : Int) (kids : List Tr)
def Tr.kind : Tr → Int | .mk k _ _ _ _ _ => k
def Tr.set : Tr → OSet | .mk _ s _ _ _ _ => s
def Tr.mn : Tr → Int | .mk _ _ a _ _ _ => a
def Tr.mx : Tr → Int | .mk _ _ _ b _ _ => b
def Tr.num : Tr → Int | .mk _ _ _ _ c _ => c
def Tr.parts : Tr → List Tr | .mk _ _ _ _ _ ps => ps
/-- The empty node. -/
def tz : Tr := .mk 0 oz 0 0 0 []
instance : Inhabited Tr := ⟨tz⟩
mutual
/-- How much there is of a node, whatever its kind. -/
def tall : Tr → Nat
  | .mk _ _ _ _ _ ps => 1 + talls ps
def talls : List Tr → Nat
  | [] => 0
  | t :: ts => tall t + talls ts
end
mutual
/-- Are all kinds among the nine? -/
def tknown : Tr → Bool
  | .mk k _ _ _ _ ps => decide (0 ≤ k) && decide (k ≤ 8) && tknowns ps
def tknowns : List Tr → Bool
  | [] => true
  | t :: ts => tknown t && tknowns ts
end
/-- What a Rep, or a Group, is of. -/
def tof (t : Tr) : Tr := t.parts.headD tz
/-- A node's parts, by its kind. -/
def tkids (t : Tr) : List Tr := if t.kind = 2 ∨ t.kind = 3 then t.parts else if t.kind = 4 ∨ t.kind = 5 then [tof t] else []

theorem talls_pos (t : Tr) : 1 ≤ tall t := by cases t; unfold tall; omega
theorem talls_append (a b : List Tr) : talls (a ++ b) = talls a + talls b := by
  induction a with
  | nil => simp [talls]
  | cons t ts ih => rw [List.cons_append, talls, talls, ih]; omega
theorem talls_take (ps : List Tr) (i : Nat) (h : i < ps.length) : talls (ps.take (i + 1)) = talls (ps.take i) + tall ps[i] := by
  rw [List.take_succ_eq_append_getElem h, talls_append]
  simp [talls]
theorem talls_length (ps : List Tr) : ps.length ≤ talls ps := by
  induction ps with
  | nil => simp [talls]
  | cons t ts ih => have := talls_pos t; rw [talls, List.length_cons]; omega
theorem tall_mem (ps : List Tr) (i : Nat) (h : i < ps.length) : tall ps[i] ≤ talls ps := by
  induction ps generalizing i with
  | nil => simp at h
  | cons t ts ih =>
    rw [talls]
    cases i with
    | zero => simp
    | succ i => have := ih i (by simpa using h); simp; omega
theorem tknowns_take (ps : List Tr) (i : Nat) (h : i < ps.length) : tknowns (ps.take (i + 1)) = (tknowns (ps.take i) && tknown ps[i]) := by
  rw [List.take_succ_eq_append_getElem h]
  generalize ps[i] = t
  induction ps.take i with
  | nil => simp [tknowns]
  | cons x xs ih => rw [List.cons_append, tknowns, tknowns, ih, Bool.and_assoc]
theorem talls_le (ps : List Tr) (i : Nat) : talls (ps.take i) ≤ talls ps := by
  have h := talls_append (ps.take i) (ps.drop i)
  rw [List.take_append_drop] at h
  omega
theorem tknowns_all (ps : List Tr) (i : Nat) (h : i < ps.length) (hk : tknown ps[i] = false) : tknowns ps = false := by
  induction ps generalizing i with
  | nil => simp at h
  | cons t ts ih =>
    rw [tknowns]
    cases i with
    | zero => rw [show tknown t = false from hk]; rfl
    | succ i => rw [ih i (by simpa using h) (by simpa using hk), Bool.and_false]
end Go.Proofs.Ytaekjcbgnlldoaa
