/- Plain mathematics of layer 7: the machine of tasks: what holds from step to step, that it ends, what fits. No program is named here. -/
import Derived.Test.YtjjhkagpoicimaaCoMd
import Derived.Test.YtjjhkagpoicimaaShMa
namespace Go.Proofs.Ytjjhkagpoicimaa
set_option linter.unusedVariables false

mutual
/-- A node that may be laid: its Reps, its Alts, its numbers are as a right tree's. -/
def cok : Nd → Bool
  | .alt l => decide (2 ≤ l.length) && coks l
  | .cat l => coks l
  | .rep d mn mx => okRep mn mx && (inRep d && cok d)
  | .group n d => decide (1 ≤ n) && decide (n ≤ 1000000) && cok d
  | .back n => decide (1 ≤ n) && decide (n ≤ 1000000)
  | .empty => true
  | .one _ => true
  | .start => true
  | .fin => true
def coks : List Nd → Bool
  | [] => true
  | d :: ds => cok d && coks ds
end
mutual
theorem right_cok (d : Nd) (o : Int) (c : List Int) (x : Int × List Int) (h : nright d o c = some x) (ho : 0 ≤ o) (hc : ∀ n ∈ c, 1 ≤ n ∧ n ≤ o) (hs : o + nsize d ≤ 1000000) : cok d = true := by
  cases d with
  | empty => rfl
  | one t => rfl
  | start => rfl
  | fin => rfl
  | back n =>
    have := (right_num (.back n) o c x h ho hc hs).1
    rw [cok]; rwa [numOk] at this
  | cat l =>
    unfold nright at h
    rw [nsize] at hs
    split at h
    · rw [cok]; exact right_coks l o c x h ho hc (by push_cast at hs; omega)
    · cases h
  | alt l =>
    unfold nright at h
    rw [nsize] at hs
    split at h
    · rename_i hk
      rw [Bool.and_eq_true] at hk
      rw [cok, hk.1, right_coks l o c x h ho hc (by push_cast at hs; omega)]; rfl
    · cases h
  | rep d mn mx =>
    unfold nright at h
    rw [nsize] at hs
    split at h
    · rename_i hk
      rw [Bool.and_eq_true] at hk
      rw [cok, hk.1, hk.2, right_cok d o c x h ho hc (by push_cast at hs; omega)]; rfl
    · cases h
  | group n d =>
    unfold nright at h
    rw [nsize] at hs
    split at h
    · rename_i hn
      obtain ⟨r, hr, hx⟩ := Option.map_eq_some_iff.1 h
      push_cast at hs
      rw [cok, right_cok d (o + 1) c r hr (by omega) (fun m hm => by have := hc m hm; omega) (by omega), decide_eq_true (by omega : 1 ≤ n), decide_eq_true (by omega : n ≤ 1000000)]; rfl
    · cases h
theorem right_coks (l : List Nd) (o : Int) (c : List Int) (x : Int × List Int) (h : nrights l o c = some x) (ho : 0 ≤ o) (hc : ∀ n ∈ c, 1 ≤ n ∧ n ≤ o) (hs : o + nsizes l ≤ 1000000) : coks l = true := by
  cases l with
  | nil => rfl
  | cons d ds =>
    unfold nrights at h
    rw [nsizes] at hs
    split at h
    · cases h
    · rename_i y hy
      have h1 := right_cok d o c y hy ho hc (by push_cast at hs; omega)
      obtain ⟨_, h2, h3, h4⟩ := right_num d o c y hy ho hc (by push_cast at hs; omega)
      have k1 := right_coks ds y.1 y.2 x h (by omega) h4 (by push_cast at hs; omega)
      rw [coks, h1, k1]; rfl
end
theorem brs_le : ∀ (ds : List Nd) (js : List Nat) (l : List Inn) (k : Nat), l.length ≤ (brs ds js l k).1.length
  | [], js, l, k => Nat.le_refl _
  | d :: ds, js, l, k => by
    rw [brs]
    split
    · simp [patch_len]
    · refine Nat.le_trans ?_ (brs_le ds _ _ _)
      simp [upd_len]
theorem rept_le (mn mx : Int) (P z k q : Nat) (l : List Inn) (k1 : Nat) : l.length ≤ (repT mn mx P z k q l k1).1.length := by
  unfold repT
  by_cases h : mn = 0
  · rw [if_pos h]
    simp only [List.length_append]
    refine Nat.le_trans ?_ (Nat.le_add_right _ _)
    refine Nat.le_trans ?_ (agroundsT_le ..)
    simp [upd_len]
  · rw [if_neg h]
    simp only [List.length_append]
    refine Nat.le_trans ?_ (Nat.le_add_right _ _)
    exact Nat.le_trans (againsT_le ..) (agroundsT_le ..)
theorem den_le (t : CTk) (s : List Inn × Nat) : s.1.length ≤ (den t s).1.length := by
  obtain ⟨l, k⟩ := s
  cases t with
  | lay d => simp [den]
  | save n => simp [den]
  | turn ds => simp [den]
  | branch s ds js => rw [den]; exact Nat.le_trans (by simp [upd_len]) (brs_le ..)
  | jumps js => simp [den, patch_len]
  | rep mn mx P q => rw [den]; exact rept_le ..
theorem dens_le : ∀ (ts : List CTk) (s : List Inn × Nat), s.1.length ≤ (dens ts s).1.length
  | [], s => Nat.le_refl _
  | t :: ts, s => Nat.le_trans (den_le t s) (dens_le ts _)
theorem dens_eqv (ts : List CTk) {a b : List Inn × Nat} (h : Eqv a b) : Eqv (dens ts a) (dens ts b) := by
  rcases h with rfl | ⟨h, h'⟩
  · exact .refl _
  · exact .inr ⟨Nat.lt_of_lt_of_le h (dens_le ..), Nat.lt_of_lt_of_le h' (dens_le ..)⟩
/-- From one round to the next. -/
theorem run_step (t : CTk) (todo : List CTk) (l : List Inn) (k : Nat) (T : List Inn × Nat) (h : Eqv (dens (t :: todo) (l, k)) T) (hr : ∀ d mn mx, t = .lay (.rep d mn mx) → repOk mn mx) (ha : ∀ ds, t = .lay (.alt ds) → ds ≠ []) :
    Eqv (dens ((stp t l k).2 ++ todo) (stp t l k).1) T := by
  rw [dens_app]
  exact (dens_eqv todo (stp_den t l k hr ha)).trans h
/-- At the end: nothing is to be done, or it is too long. -/
theorem run_end (todo : List CTk) (s : List Inn × Nat) (T : List Inn × Nat) (h : Eqv (dens todo s) T) (he : todo = [] ∨ 3000 < s.1.length) : Eqv s T := by
  rcases he with rfl | he
  · exact h
  · rcases h with rfl | ⟨_, h⟩
    · exact .inr ⟨he, Nat.lt_of_lt_of_le he (dens_le ..)⟩
    · exact .inr ⟨he, h⟩
/-- How much is to be done still. -/
def tkw : CTk → Nat
  | .lay d => 3 * nsize d - 1
  | .save _ => 1
  | .turn ds => 3 * nsizes ds + 1
  | .branch _ ds _ => 3 * nsizes ds + 1
  | .jumps _ => 1
  | .rep _ _ _ _ => 1
def tkws : List CTk → Nat
  | [] => 0
  | t :: ts => tkw t + tkws ts
theorem tkws_app : ∀ a b : List CTk, tkws (a ++ b) = tkws a + tkws b
  | [], b => by simp [tkws]
  | t :: a, b => by rw [List.cons_append, tkws, tkws, tkws_app a b]; omega
theorem nsize_one : ∀ d : Nd, 1 ≤ nsize d := fun d => by cases d <;> simp [nsize]
theorem inturn_w (ds : List Nd) : tkws (coTurn ds) ≤ 3 * nsizes ds := by
  cases ds with
  | nil => simp [coTurn, tkws]
  | cons d ds => have := nsize_one d; simp only [coTurn, tkws, tkw, nsizes]; omega
theorem brst_w (ds : List Nd) (js : List Nat) (l : List Inn) : tkws (brSt ds js l).2 ≤ 3 * nsizes ds := by
  cases ds with
  | nil => simp [brSt, tkws]
  | cons d ds =>
    have := nsize_one d
    rw [brSt]
    split <;> simp only [tkws, tkw, nsizes] <;> omega
/-- Each step leaves less to be done. -/
theorem stp_w (t : CTk) (l : List Inn) (k : Nat) : tkws (stp t l k).2 < tkw t := by
  cases t with
  | save n => simp [stp, tkws, tkw]
  | turn ds => have := inturn_w ds; rw [stp, tkw]; simp only; omega
  | branch s ds js => have := brst_w ds (js ++ [l.length]) (upd (l ++ [ins 2 0 0]) s fun i => { i with y := (l.length + 1 : Nat) }); rw [stp, tkw]; simp only; omega
  | jumps js => simp [stp, tkws, tkw]
  | rep mn mx P q => simp [stp, tkws, tkw]
  | lay d =>
    cases d with
    | cat ds => have := inturn_w ds; rw [stp, tkw, nsize]; simp only; omega
    | alt ds => have := brst_w ds [] l; rw [stp, tkw, nsize]; simp only; omega
    | group n d => have := nsize_one d; rw [stp, tkw, nsize]; simp only [tkws, tkw]; omega
    | rep d mn mx =>
      have := nsize_one d
      rw [stp, tkw, nsize]
      split
      · simp only [tkws]; omega
      · split <;> simp only [tkws, tkw] <;> omega
    | _ => simp [stp, tkws, tkw, nsize]
end Go.Proofs.Ytjjhkagpoicimaa
