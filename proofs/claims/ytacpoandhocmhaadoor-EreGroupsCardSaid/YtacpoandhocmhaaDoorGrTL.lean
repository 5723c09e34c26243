/- GrT: The statements' node whose groups have greater numbers, walked.
   GrL: The statement BreGroups, walked. -/
import Derived.Test.YtacpoandhocmhaaDoorGrPE
import Derived.Test.YtacpoandhocmhaaDoorTrRf
import Derived.Test.YtacpoandhocmhaaDoorCmn
import Derived.Test.YtacpoandhocmhaaDoorBreAwake
namespace Go.Proofs.YtacpoandhocmhaaDoor
open Go Go.RowKit

mutual
/-- The document's node of what a regex is made of, its groups with greater numbers. -/
def utn (g : Int) : Nd → Tr
  | .empty => tz
  | .one s => .mk 1 s 0 0 0 []
  | .cat l => .mk 2 oz 0 0 0 (utns g l)
  | .alt l => .mk 3 oz 0 0 0 (utns g l)
  | .rep d mn mx => .mk 4 oz mn mx 0 [utn g d]
  | .group n d => .mk 5 oz 0 0 (n + g) [utn g d]
  | .back n => .mk 6 oz 0 0 n []
  | .start => .mk 7 oz 0 0 0 []
  | .fin => .mk 8 oz 0 0 0 []
def utns (g : Int) : List Nd → List Tr
  | [] => []
  | d :: ds => utn g d :: utns g ds
end
theorem utns_map (g : Int) (l : List Nd) : utns g l = l.map (utn g) := by
  induction l with
  | nil => rfl
  | cons d ds ih => rw [utns, ih]; rfl
mutual
theorem utn_unc (g : Int) : ∀ d : Nd, utn g d = unc (nturn g d)
  | .empty => rfl
  | .one _ => rfl
  | .cat l => congrArg (fun x => Tr.mk 2 oz 0 0 0 x) (utns_uncs g l)
  | .alt l => congrArg (fun x => Tr.mk 3 oz 0 0 0 x) (utns_uncs g l)
  | .rep d mn mx => congrArg (fun x => Tr.mk 4 oz mn mx 0 [x]) (utn_unc g d)
  | .group n d => congrArg (fun x => Tr.mk 5 oz 0 0 (n + g) [x]) (utn_unc g d)
  | .back _ => rfl
  | .start => rfl
  | .fin => rfl
theorem utns_uncs (g : Int) : ∀ l : List Nd, utns g l = uncs (nturns g l)
  | [] => rfl
  | d :: ds => by rw [utns, utn_unc g d, utns_uncs g ds]; rfl
end
mutual
/-- Are the numbers of its groups in their range? -/
def numok : Nd → Bool
  | .cat l => numoks l
  | .alt l => numoks l
  | .rep d _ _ => numok d
  | .group n d => decide (0 ≤ n) && decide (n ≤ 4000000) && numok d
  | _ => true
def numoks : List Nd → Bool
  | [] => true
  | d :: ds => numok d && numoks ds
end
mutual
theorem right_numok : ∀ (d : Nd) (o : Int) (c : List Int) (r : Int × List Int), nright d o c = some r → 0 ≤ o → o + ngroups d ≤ 4000000 → numok d = true
  | .empty, _, _, _, _, _, _ => rfl
  | .one _, _, _, _, _, _, _ => rfl
  | .cat l, o, c, r, h, h0, h1 => by
    rw [nright] at h
    split at h
    · exact rights_numok l o c r h h0 h1
    · cases h
  | .alt l, o, c, r, h, h0, h1 => by
    rw [nright] at h
    split at h
    · exact rights_numok l o c r h h0 h1
    · cases h
  | .rep d _ _, o, c, r, h, h0, h1 => by
    rw [nright] at h
    split at h
    · exact right_numok d o c r h h0 h1
    · cases h
  | .group n d, o, c, r, h, h0, h1 => by
    rw [nright] at h
    rw [ngroups] at h1
    split at h
    · rename_i hn
      cases hd : nright d (o + 1) c with
      | none => rw [hd] at h; cases h
      | some q =>
        have := right_numok d (o + 1) c q hd (by omega) (by omega)
        rw [numok, this, decide_eq_true (by omega), decide_eq_true (by omega)]
        rfl
    · cases h
  | .back _, _, _, _, _, _, _ => rfl
  | .start, _, _, _, _, _, _ => rfl
  | .fin, _, _, _, _, _, _ => rfl
theorem rights_numok : ∀ (l : List Nd) (o : Int) (c : List Int) (r : Int × List Int), nrights l o c = some r → 0 ≤ o → o + ngroupss l ≤ 4000000 → numoks l = true
  | [], _, _, _, _, _, _ => rfl
  | d :: ds, o, c, r, h, h0, h1 => by
    rw [nrights] at h
    rw [ngroupss] at h1
    cases hd : nright d o c with
    | none => rw [hd] at h; cases h
    | some q =>
      rw [hd] at h
      have hc := (nright_count d o c q hd).1
      rw [numoks, right_numok d o c q hd h0 (by omega), rights_numok ds q.1 q.2 r h (by omega) (by omega)]
      rfl
end
theorem numoks_get {l : List Nd} (h : numoks l = true) (k : Nat) (hk : k < l.length) : numok l[k] = true := by
  induction l generalizing k with
  | nil => simp at hk
  | cons d ds ih =>
    rw [numoks, Bool.and_eq_true] at h
    cases k with
    | zero => exact h.1
    | succ k => exact ih h.2 k (by simpa using hk)
theorem numok_kids {d : Nd} (h : numok d = true) : numoks (nkids d) = true := by
  cases d <;> simp_all [numok, nkids, numoks]
theorem unc_kids (d : Nd) : (unc d).parts = (nkids d).map unc := by cases d <;> simp [unc, nkids, uncs_map, Tr.parts, tz]
theorem utn_kids (g : Int) (d : Nd) : (utn g d).parts = (nkids d).map (utn g) := by cases d <;> simp [utn, nkids, utns_map, Tr.parts, tz]
theorem utn_rest (g : Int) (d : Nd) : (utn g d).kind = (unc d).kind ∧ (utn g d).set = (unc d).set ∧ (utn g d).mn = (unc d).mn ∧ (utn g d).mx = (unc d).mx := by cases d <;> exact ⟨rfl, rfl, rfl, rfl⟩
theorem utn_num (g : Int) (d : Nd) : (utn g d).num = if (unc d).kind = 5 then (unc d).num + g else (unc d).num := by cases d <;> simp [utn, unc, tz, Tr.num, Tr.kind]
end Go.Proofs.YtacpoandhocmhaaDoor
namespace Go.Proofs.YtacpoandhocmhaaDoor
open Go Go.RowKit Go.Shelf

end Go.Proofs.YtacpoandhocmhaaDoor
