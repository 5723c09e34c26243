/- Plain mathematics of layer 7: what is still to be done, as a list of tasks; what they lay; one task at a time. No program is named here. -/
import Derived.Test.YtjjhkagpoicimaaCoMc
namespace Go.Proofs.Ytjjhkagpoicimaa
set_option linter.unusedVariables false

/-- What is still to be done. -/
inductive CTk where
  | lay (d : Nd)
  | save (n : Int)
  | turn (ds : List Nd)
  | branch (split : Nat) (ds : List Nd) (js : List Nat)
  | jumps (js : List Nat)
  | rep (mn mx : Int) (P k : Nat)
/-- The same, or both too long. -/
def Eqv (a b : List Inn × Nat) : Prop := a = b ∨ (3000 < a.1.length ∧ 3000 < b.1.length)
theorem Eqv.refl (a : List Inn × Nat) : Eqv a a := .inl rfl
theorem Eqv.trans {a b c : List Inn × Nat} (h : Eqv a b) (k : Eqv b c) : Eqv a c := by
  rcases h with rfl | h
  · exact k
  · rcases k with rfl | k
    · exact .inr h
    · exact .inr ⟨h.1, k.2⟩
/-- What a task lays, by itself. -/
def den : CTk → List Inn × Nat → List Inn × Nat
  | .lay d, (l, k) => (l ++ cd d l.length k, k + clp d)
  | .save n, (l, k) => (l ++ [ins 3 (2 * n + 1) 0], k)
  | .turn ds, (l, k) => (l ++ cds ds l.length k, k + clps ds)
  | .branch s ds js, (l, k) => brs ds (js ++ [l.length]) (upd (l ++ [ins 2 0 0]) s fun i => { i with y := (l.length + 1 : Nat) }) k
  | .jumps js, (l, k) => (patch (l.length : Nat) js l, k)
  | .rep mn mx P q, (l, k) => repT mn mx P (l.length - P) q (k - q) l k
def dens : List CTk → List Inn × Nat → List Inn × Nat
  | [], s => s
  | t :: ts, s => dens ts (den t s)
theorem dens_app : ∀ (a b : List CTk) (s : List Inn × Nat), dens (a ++ b) s = dens b (dens a s)
  | [], b, s => rfl
  | t :: a, b, s => dens_app a b (den t s)
/-- The tasks of a Cat's parts, of an Alt's branches. -/
def coTurn : List Nd → List CTk
  | [] => []
  | d :: ds => [.lay d, .turn ds]
def brSt : List Nd → List Nat → List Inn → List Inn × List CTk
  | [], js, l => (l, [])
  | d :: ds, js, l => if ds.isEmpty then (l, [.lay d, .jumps js]) else (l ++ [ins 1 (l.length + 1 : Nat) 0], [.lay d, .branch l.length ds js])
/-- A task done: what stands then, and what is put ahead of the others. -/
def stp : CTk → List Inn → Nat → (List Inn × Nat) × List CTk
  | .lay .empty, l, k => ((l, k), [])
  | .lay (.one s), l, k => ((l ++ [⟨0, s, 0, 0⟩], k), [])
  | .lay (.cat ds), l, k => ((l, k), coTurn ds)
  | .lay (.alt ds), l, k => (((brSt ds [] l).1, k), (brSt ds [] l).2)
  | .lay (.rep d mn mx), l, k => if mx = 0 then ((l, k), []) else if mn = 0 then ((l ++ [ins 1 (l.length + 1 : Nat) 0, ins 7 k 0], k + 1), [.lay d, .rep mn mx (l.length + 2) (k + 1)]) else ((l, k), [.lay d, .rep mn mx l.length k])
  | .lay (.group n d), l, k => ((l ++ [ins 3 (2 * n) 0], k), [.lay d, .save n])
  | .lay (.back n), l, k => ((l ++ [ins 4 n 0], k), [])
  | .lay .start, l, k => ((l ++ [ins 5 0 0], k), [])
  | .lay .fin, l, k => ((l ++ [ins 6 0 0], k), [])
  | .save n, l, k => ((l ++ [ins 3 (2 * n + 1) 0], k), [])
  | .turn ds, l, k => ((l, k), coTurn ds)
  | .branch s ds js, l, k =>
    let l1 := upd (l ++ [ins 2 0 0]) s fun i => { i with y := (l.length + 1 : Nat) }
    (((brSt ds (js ++ [l.length]) l1).1, k), (brSt ds (js ++ [l.length]) l1).2)
  | .jumps js, l, k => ((patch (l.length : Nat) js l, k), [])
  | .rep mn mx P q, l, k => (repT mn mx P (l.length - P) q (k - q) l k, [])
theorem inturn_den (ds : List Nd) (l : List Inn) (k : Nat) : dens (coTurn ds) (l, k) = (l ++ cds ds l.length k, k + clps ds) := by
  cases ds with
  | nil => simp [coTurn, dens, cds, clps]
  | cons d ds => simp [coTurn, dens, den, cds, clps, cd_len, Nat.add_assoc]
theorem brst_den (ds : List Nd) (js : List Nat) (l : List Inn) (k : Nat) : dens (brSt ds js l).2 ((brSt ds js l).1, k) = brs ds js l k := by
  cases ds with
  | nil => rfl
  | cons d ds =>
    rw [brSt, brs]
    split
    · simp [dens, den, cd_len]
    · simp only [dens, den]
      have h1 : (l ++ [ins 1 (l.length + 1 : Nat) 0]).length = l.length + 1 := by simp
      rw [h1]
      have h2 : (l ++ [ins 1 (l.length + 1 : Nat) 0] ++ cd d (l.length + 1) k).length = l.length + 1 + csz d := by simp [cd_len]; omega
      rw [h2]
      congr 1
      rw [show l ++ [ins 1 (l.length + 1 : Nat) 0] ++ cd d (l.length + 1) k ++ [ins 2 0 0] = l ++ ins 1 (l.length + 1 : Nat) 0 :: (cd d (l.length + 1) k ++ [ins 2 0 0]) by simp, show l.length + 1 + csz d + 1 = l.length + csz d + 2 by omega]
/-- May a Rep stand so? -/
def repOk (mn mx : Int) : Prop := 0 ≤ mn ∧ (mx = -1 ∨ mn ≤ mx)
/-- A task done, and what it put ahead: what the task lays by itself, or both are too long. -/
theorem stp_den (t : CTk) (l : List Inn) (k : Nat) (hr : ∀ d mn mx, t = .lay (.rep d mn mx) → repOk mn mx) (ha : ∀ ds, t = .lay (.alt ds) → ds ≠ []) :
    Eqv (dens (stp t l k).2 (stp t l k).1) (den t (l, k)) := by
  cases t with
  | save n => exact .inl rfl
  | turn ds => exact .inl (inturn_den ds l k)
  | branch s ds js => exact .inl (brst_den ds _ _ k)
  | jumps js => exact .inl rfl
  | rep mn mx P q => exact .inl rfl
  | lay d =>
    cases d with
    | empty => left; simp [stp, dens, den, cd, clp]
    | one s => left; simp [stp, dens, den, cd, clp]
    | back n => left; simp [stp, dens, den, cd, clp]
    | start => left; simp [stp, dens, den, cd, clp]
    | fin => left; simp [stp, dens, den, cd, clp]
    | cat ds => left; rw [stp, inturn_den, den, cd, clp]
    | alt ds =>
      left
      rw [stp, brst_den, brs_eq ds [] l k (ha ds rfl) (by simp), den, cd, clp]; rfl
    | group n d => left; simp [stp, dens, den, cd, clp]
    | rep d mn mx =>
      obtain ⟨h1, h2⟩ := hr d mn mx rfl
      rw [stp]
      split
      · rename_i h0
        subst h0
        obtain rfl : mn = 0 := by omega
        left
        simp [dens, den, cd, clp, copies, rounds]
      · rename_i h0
        split
        · rename_i h3
          subst h3
          simp only [dens, den]
          have h4 : (l ++ [ins 1 (l.length + 1 : Nat) 0, ins 7 k 0]).length = l.length + 2 := by simp
          rw [h4]
          have h5 : (l ++ [ins 1 (l.length + 1 : Nat) 0, ins 7 k 0] ++ cd d (l.length + 2) (k + 1)).length - (l.length + 2) = csz d := by simp [cd_len]; omega
          rw [h5, Nat.add_sub_cancel_left]
          rcases corep_none d mx h0 (by omega) l k with h | ⟨h, h'⟩
          · exact .inl h
          · exact .inr ⟨h, by simp only [List.length_append, cd_len]; exact h'⟩
        · rename_i h3
          simp only [dens, den]
          have h5 : (l ++ cd d l.length k).length - l.length = csz d := by simp [cd_len]
          rw [h5, Nat.add_sub_cancel_left]
          rcases corep_some d mn mx (by omega) l k with h | ⟨h, h'⟩
          · exact .inl h
          · exact .inr ⟨h, by simp only [List.length_append, cd_len]; exact h'⟩
end Go.Proofs.Ytjjhkagpoicimaa
