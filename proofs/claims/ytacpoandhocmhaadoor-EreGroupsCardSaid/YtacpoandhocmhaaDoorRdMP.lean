/- RdMN: RdM: The reader's regexes: branches chosen among.
   RdN: The reader's groups.
   RdOP: RdO: The program's Parse of basic regexes.
   RdP: The program's Parse of basic regexes: any text. -/
import Derived.Test.YtacpoandhocmhaaDoorRdKL
import Derived.Test.YtacpoandhocmhaaDoorCmn
import Derived.Defers
import Derived.Recover
import Derived.Tactics2
namespace Go.Proofs.YtacpoandhocmhaaDoor
open Go Go.RowKit

/-- What is read behind a branch. -/
def chTail (s : List UInt8) (sub : Option (ReSt → ReRes (ReSt × Nd))) (m : Nat) (st : ReSt) (l : List Nd) : ReRes (ReSt × Nd) :=
  if esAt s st.pos 124 then choiceM false s sub false m ((st.mark 124).to (st.pos + 2)) l else .ok (st, nchoose l)
theorem choice_eq (s : List UInt8) (sub : Option (ReSt → ReRes (ReSt × Nd))) (n : Nat) (st : ReSt) (l : List Nd) : choiceM false s sub false (n + 1) st l = match branchM false s sub false st.pos (s.length + 1) st [] true with
    | .error e => .error e
    | .ok q => chTail s sub n q.1 (l ++ [q.2]) := by
  rw [choiceM]
  cases branchM false s sub false st.pos (s.length + 1) st [] true with
  | error e => rfl
  | ok q => rfl
end Go.Proofs.YtacpoandhocmhaaDoor
namespace Go.Proofs.YtacpoandhocmhaaDoor
open Go Go.RowKit

end Go.Proofs.YtacpoandhocmhaaDoor
namespace Go.Proofs.YtacpoandhocmhaaDoor
open Go Go.RowKit

end Go.Proofs.YtacpoandhocmhaaDoor
namespace Go.Proofs.YtacpoandhocmhaaDoor
open Go Go.RowKit

theorem branch_ends (s : List UInt8) (sub : Option (ReSt → ReRes (ReSt × Nd))) (begin : Nat) : ∀ (n : Nat) (st : ReSt) (parts : List Nd) (front : Bool) (st' : ReSt) (d : Nd), branchM false s sub false begin n st parts front = .ok (st', d) → endsAt s st'.pos = true := by
  intro n
  induction n with
  | zero => intro _ _ _ _ _ h; cases h
  | succ n ih =>
    intro st parts front st' d h
    rw [branchM] at h
    split at h
    · rename_i he
      injection h with h; injection h with h1 _; subst h1
      unfold endsAt
      simpa [opAt] using he
    split at h
    · exact ih _ _ _ _ _ h
    split at h
    · exact ih _ _ _ _ _ h
    split at h
    · cases h
    split at h
    · cases h
    · split at h
      · cases h
      · exact ih _ _ _ _ _ h
theorem choice_ends (s : List UInt8) (sub : Option (ReSt → ReRes (ReSt × Nd))) : ∀ (n : Nat) (st : ReSt) (l : List Nd) (st' : ReSt) (d : Nd), choiceM false s sub false n st l = .ok (st', d) → s.length ≤ st'.pos ∨ esAt s st'.pos 41 = true := by
  intro n
  induction n with
  | zero => intro _ _ _ _ h; cases h
  | succ n ih =>
    intro st l st' d h
    rw [choiceM] at h
    split at h
    · cases h
    · rename_i st1 d1 hb
      have h1 := branch_ends s sub _ _ _ _ _ _ _ hb
      split at h
      · exact ih _ _ _ _ h
      · rename_i h124
        injection h with h; injection h with h2 _; subst h2
        unfold endsAt at h1
        simp only [opAt, Bool.false_eq_true, if_false] at h124
        simp only [Bool.or_eq_true, decide_eq_true_eq] at h1
        rcases h1 with (h1 | h1) | h1
        · exact .inl h1
        · exact (h124 h1).elim
        · exact .inr h1
end Go.Proofs.YtacpoandhocmhaaDoor
