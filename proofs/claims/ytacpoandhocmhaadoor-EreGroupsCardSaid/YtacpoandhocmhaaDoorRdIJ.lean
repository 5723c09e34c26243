/- RdI: The reader's atoms, walked.
   RdJ: The reader's pieces. -/
import Derived.Test.YtacpoandhocmhaaDoorCmn
import Derived.Test.YtacpoandhocmhaaDoorRdFH
import Derived.Test.YtacpoandhocmhaaDoorMaC
namespace Go.Proofs.YtacpoandhocmhaaDoor
open Go Go.RowKit

end Go.Proofs.YtacpoandhocmhaaDoor
namespace Go.Proofs.YtacpoandhocmhaaDoor
open Go Go.RowKit

/-- What was read, and the repetitions behind it. -/
def repsOf (s : List UInt8) (A : ReRes (ReSt × Nd)) : ReRes (ReSt × Nd) := match A with
  | .error e => .error e
  | .ok q => repM false s (s.length + 1) q.1 q.2
/-- A piece that is no Start. -/
def pieceM (s : List UInt8) (sub : Option (ReSt → ReRes (ReSt × Nd))) (front : Bool) (st : ReSt) : ReRes (ReSt × Nd) :=
  if chAt s st.pos 36 && endsAt s (st.pos + 1) then .ok (st.to (st.pos + 1), .fin)
  else repsOf s (atomF s sub front st)
theorem intv_move (ere : Bool) (s : List UInt8) (k : Nat) (m n : Int) (j : Nat) (h : intv ere s k = some (m, n, j)) : k < j ∧ j ≤ s.length := by
  rw [intv_at] at h
  obtain ⟨q, hq, he⟩ := Option.map_eq_some_iff.1 h
  have h0 : ivclo ere ≠ [] := by cases ere <;> simp [ivclo]
  have h1 : q.2.2 ≤ (s.drop k).length := by
    unfold ivl at hq
    split at hq
    · rename_i hc
      injection hq with hq
      subst hq
      rw [Bool.and_eq_true] at hc
      exact word_len _ _ _ hc.2 h0
    · cases hq
  have h2 : 0 < q.2.2 := by
    unfold ivl at hq
    split at hq
    · injection hq with hq
      subst hq
      have : 0 < (ivclo ere).length := List.length_pos_iff.2 h0
      simp only
      omega
    · cases hq
  rw [List.length_drop] at h1
  injection he with he1 he2
  injection he2 with he2 he3
  omega
theorem rep_move (s : List UInt8) (k : Nat) (a b : Int) (c j : Nat) (h : repAt false s k = .some a b c j) : k < j ∧ j ≤ s.length := by
  unfold repAt at h
  split at h
  · rename_i h1
    injection h with _ _ _ h
    have := (ch_byt h1).1
    omega
  split at h
  · rename_i _ h1
    injection h with _ _ _ h
    have := (es_byt h1).1
    simp [opLen] at h
    omega
  split at h
  · rename_i _ _ h1
    injection h with _ _ _ h
    have := (es_byt h1).1
    simp [opLen] at h
    omega
  split at h
  · rename_i _ _ _ h1
    split at h
    · cases h
    · rename_i m n j' hi
      injection h with _ _ _ h
      have h3 := intv_move _ _ _ _ _ _ hi
      simp [opLen] at h3
      omega
  · cases h
theorem repM_succ (s : List UInt8) (m : Nat) (st : ReSt) (d : Nd) (h : 0 < m) : repM false s m st d = match repAt false s st.pos with
    | .none => .ok (st, d)
    | .bad => .error (7, st.pos)
    | .some mn mx c j => repM false s (m - 1) ((if c = 0 then st else st.mark c).to j) (.rep d mn mx) := by
  obtain ⟨n, rfl⟩ : ∃ n, m = n + 1 := ⟨m - 1, by omega⟩
  rw [repM]
  rfl
theorem branch_step (s : List UInt8) (sub : Option (ReSt → ReRes (ReSt × Nd))) (begin n : Nat) (st : ReSt) (parts : List Nd) (front : Bool) (h : endsAt s st.pos = false) (h94 : (chAt s st.pos 94 && decide (st.pos = begin)) = false) :
    branchM false s sub false begin (n + 1) st parts front = match pieceM s sub front st with
      | .error e => .error e
      | .ok q => branchM false s sub false begin n q.1 (parts ++ [q.2]) (chAt s st.pos 36 && endsAt s (st.pos + 1)) := by
  rw [branchM]
  have h' := h
  unfold endsAt at h'
  simp only [opAt, Bool.false_eq_true, if_false, Bool.not_false, Bool.and_true, Bool.false_or]
  rw [h', h94]
  simp only [Bool.false_eq_true, if_false]
  unfold pieceM
  cases hq : (chAt s st.pos 36 && endsAt s (st.pos + 1)) with
  | true => simp
  | false =>
    simp only [Bool.false_eq_true, if_false]
    unfold repsOf atomF
    simp only [opAt, Bool.false_eq_true, if_false, Bool.false_and, Bool.or_false]
    cases hf : (front && (esAt s st.pos 123 || esAt s st.pos 43 || esAt s st.pos 63)) with
    | true => simp
    | false =>
      simp only [Bool.false_eq_true, if_false]
      cases atomM false s sub st with
      | error e => rfl
      | ok q =>
        obtain ⟨st1, d⟩ := q
        simp only
        cases repM false s (s.length + 1) st1 d with
        | error e => rfl
        | ok q2 => rfl
end Go.Proofs.YtacpoandhocmhaaDoor
