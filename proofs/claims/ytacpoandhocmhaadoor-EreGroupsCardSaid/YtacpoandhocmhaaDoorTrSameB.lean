/- Same of the document: whether two trees are the same. -/
import Derived.Test.YtacpoandhocmhaaDoorTrWk
import Derived.Test.YtacpoandhocmhaaDoorMaA
import Derived.Deep.CutBlock
namespace Go.Proofs.YtacpoandhocmhaaDoor
open Go Go.RowKit

theorem same_kind_ne (t u : Tr) (ht : tknown t = true) (hu : tknown u = true) (h : t.kind ≠ u.kind) : nsame (canon t) (canon u) = false := by
  rcases canon_cases t ht with ⟨k, e⟩ | ⟨k, _, e⟩ | ⟨k, _, e⟩ | ⟨k, _, e⟩ | ⟨k, _, _, _, e⟩ | ⟨k, _, _, e⟩ | ⟨k, _, e⟩ | ⟨k, e⟩ | ⟨k, e⟩ <;>
  rcases canon_cases u hu with ⟨k', e'⟩ | ⟨k', _, e'⟩ | ⟨k', _, e'⟩ | ⟨k', _, e'⟩ | ⟨k', _, _, _, e'⟩ | ⟨k', _, _, e'⟩ | ⟨k', _, e'⟩ | ⟨k', e'⟩ | ⟨k', e'⟩ <;>
  first
  | (exfalso; omega)
  | (rw [e, e']; simp [nsame])
theorem same_one (t u : Tr) (h : t.kind = 1) (h2 : u.kind = 1) : nsame (canon t) (canon u) = decide (t.set = u.set) := by
  rw [canon_1 t h, canon_1 u h2]; rfl
/-- Two of one kind, by their heads and their parts. -/
structure SHd (t u : Tr) (l m : List Tr) (R : Bool) : Prop where
  kt : 0 ≤ t.kind ∧ t.kind ≤ 8
  ne : t.kind ≠ u.kind → R = false
  one : t.kind = 1 → u.kind = 1 → R = decide (t.set = u.set)
  rep : t.kind = 4 → u.kind = 4 → R = (decide (t.mn = u.mn) && decide (t.mx = u.mx) && nsames (l.map canon) (m.map canon))
  grp : (t.kind = 5 ∨ t.kind = 6) → t.kind = u.kind → R = (decide (t.num = u.num) && nsames (l.map canon) (m.map canon))
  oth : (t.kind = 0 ∨ t.kind = 2 ∨ t.kind = 3 ∨ t.kind = 7 ∨ t.kind = 8) → t.kind = u.kind → R = nsames (l.map canon) (m.map canon)
  kn : (∀ i (h : i < l.length), tknown l[i] = true) ∧ (∀ i (h : i < m.length), tknown m[i] = true)
theorem shd_mk (t u : Tr) (ht : tknown t = true) (hu : tknown u = true) : SHd t u (tkids t) (tkids u) (nsame (canon t) (canon u)) := by
  have hk := nsame_kids (canon t) (canon u)
  rw [canon_kids, canon_kids] at hk
  refine ⟨known_kind t ht, same_kind_ne t u ht hu, same_one t u, fun h h2 => ?_, fun h h2 => ?_, fun h h2 => ?_, known_kids t ht, known_kids u hu⟩
  · rw [hk]
    congr 1
    rw [(canon_4 t h).1, (canon_4 u h2).1]; rfl
  · rw [hk]
    congr 1
    rcases h with h | h
    · rw [(canon_5 t h).1, (canon_5 u (by omega)).1]; rfl
    · rw [canon_6 t h, canon_6 u (by omega)]; rfl
  · rw [hk]
    have hh : nhead (canon t) (canon u) = true := by
      rcases h with h | h | h | h | h
      · rw [canon_0 t (by omega) (by omega) (by omega) (by omega) (by omega) (by omega) (by omega) (by omega), canon_0 u (by omega) (by omega) (by omega) (by omega) (by omega) (by omega) (by omega) (by omega)]; rfl
      · rw [canon_2 t h, canon_2 u (by omega)]; rfl
      · rw [canon_3 t h, canon_3 u (by omega)]; rfl
      · rw [canon_7 t h, canon_7 u (by omega)]; rfl
      · rw [canon_8 t h, canon_8 u (by omega)]; rfl
    rw [hh, Bool.true_and]
mutual
theorem nsame_comm : ∀ d e : Nd, nsame d e = nsame e d
  | .empty, e => by cases e <;> rfl
  | .one s, e => by cases e <;> first | rfl | exact decide_eq_decide.2 ⟨Eq.symm, Eq.symm⟩
  | .cat l, e => by cases e <;> first | rfl | exact nsames_comm l _
  | .alt l, e => by cases e <;> first | rfl | exact nsames_comm l _
  | .rep d a b, e => by
    cases e with
    | rep d' a' b' =>
      have h := nsame_comm d d'
      simp only [nsame]
      rw [h, show decide (a = a') = decide (a' = a) from decide_eq_decide.2 ⟨Eq.symm, Eq.symm⟩, show decide (b = b') = decide (b' = b) from decide_eq_decide.2 ⟨Eq.symm, Eq.symm⟩]
    | _ => rfl
  | .group n d, e => by
    cases e with
    | group n' d' =>
      have h := nsame_comm d d'
      simp only [nsame]
      rw [h, show decide (n = n') = decide (n' = n) from decide_eq_decide.2 ⟨Eq.symm, Eq.symm⟩]
    | _ => rfl
  | .back n, e => by cases e <;> first | rfl | exact decide_eq_decide.2 ⟨Eq.symm, Eq.symm⟩
  | .start, e => by cases e <;> rfl
  | .fin, e => by cases e <;> rfl
theorem nsames_comm : ∀ l m : List Nd, nsames l m = nsames m l
  | [], m => by cases m <;> rfl
  | d :: ds, m => by
    cases m with
    | nil => rfl
    | cons e es => simp only [nsames]; rw [nsame_comm d e, nsames_comm ds es]
end
end Go.Proofs.YtacpoandhocmhaaDoor
