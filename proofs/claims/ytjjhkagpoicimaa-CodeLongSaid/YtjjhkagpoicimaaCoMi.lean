/- Plain mathematics of layer 7: the document's laying of any node is the node's instructions, or too long. No program is named here. -/
import Derived.Test.YtjjhkagpoicimaaCoMh
namespace Go.Proofs.Ytjjhkagpoicimaa
set_option linter.unusedVariables false

mutual
theorem csz_zero : ∀ d : Nd, csz d = 0 → clp d = 0
  | .empty, _ => by simp [clp]
  | .one _, h => by simp [csz] at h
  | .cat l, h => by rw [csz] at h; rw [clp]; exact cszs_zero l h
  | .alt l, h => by rw [csz] at h; rw [clp]; exact cszs_zero l (by omega)
  | .rep d mn mx, h => by
    rw [csz] at h
    rw [clp]
    split at h
    · omega
    · rename_i hx
      have h1 : mn.toNat * csz d = 0 := by omega
      have h2 : (mx - mn).toNat * (csz d + 3) = 0 := by omega
      have h3 : (mx - mn).toNat = 0 := by rcases Nat.mul_eq_zero.1 h2 with h | h <;> omega
      rw [if_neg hx, h3]
      rcases Nat.mul_eq_zero.1 h1 with h | h
      · rw [h]; simp
      · rw [csz_zero d h]; simp
  | .group _ d, h => by rw [csz] at h; omega
  | .back _, h => by simp [csz] at h
  | .start, h => by simp [csz] at h
  | .fin, h => by simp [csz] at h
theorem cszs_zero : ∀ l : List Nd, cszs l = 0 → clps l = 0
  | [], _ => by simp [clps]
  | d :: ds, h => by rw [cszs] at h; rw [clps, csz_zero d (by omega), cszs_zero ds (by omega)]
end
mutual
/-- The document's laying. -/
def dl : Nd → Lf
  | .empty, l, k => (l, k)
  | .one s, l, k => if 3000 < l.length then (l, k) else (l ++ [⟨0, s, 0, 0⟩], k)
  | .cat ds, l, k => if 3000 < l.length then (l, k) else dls ds l k
  | .alt ds, l, k => if 3000 < l.length then (l, k) else dla ds [] l k
  | .rep d mn mx, l, k => if 3000 < l.length then (l, k) else
      if mx = -1 then dend (fun l k => dl d l k) (dcop (fun l k => dl d l k) mn.toNat l k).1 (dcop (fun l k => dl d l k) mn.toNat l k).2
      else drou (fun l k => dl d l k) (mx - mn).toNat [] (dcop (fun l k => dl d l k) mn.toNat l k).1 (dcop (fun l k => dl d l k) mn.toNat l k).2
  | .group n d, l, k => if 3000 < l.length then (l, k) else ((dl d (l ++ [ins 3 (2 * n) 0]) k).1 ++ [ins 3 (2 * n + 1) 0], (dl d (l ++ [ins 3 (2 * n) 0]) k).2)
  | .back n, l, k => if 3000 < l.length then (l, k) else (l ++ [ins 4 n 0], k)
  | .start, l, k => if 3000 < l.length then (l, k) else (l ++ [ins 5 0 0], k)
  | .fin, l, k => if 3000 < l.length then (l, k) else (l ++ [ins 6 0 0], k)
def dls : List Nd → Lf
  | [], l, k => (l, k)
  | d :: ds, l, k => dls ds (dl d l k).1 (dl d l k).2
def dla : List Nd → List Nat → Lf
  | [], js, l, k => (l, k)
  | d :: ds, js, l, k =>
    if ds.isEmpty then (patch ((dl d l k).1.length : Nat) js (dl d l k).1, (dl d l k).2)
    else dla ds (js ++ [(dl d (l ++ [ins 1 (l.length + 1 : Nat) 0]) k).1.length])
      (upd ((dl d (l ++ [ins 1 (l.length + 1 : Nat) 0]) k).1 ++ [ins 2 0 0]) l.length fun i => { i with y := ((dl d (l ++ [ins 1 (l.length + 1 : Nat) 0]) k).1.length + 1 : Nat) }) (dl d (l ++ [ins 1 (l.length + 1 : Nat) 0]) k).2
end
theorem lays_cap {c : Nat → Nat → List Inn} {z q : Nat} (g : Lf) (hc : ∀ P k, (c P k).length = z) (h : ∀ l k, l.length ≤ (g l k).1.length ∧ Eqv (g l k) (l ++ c l.length k, k + q)) :
    Lays (fun l k => if 3000 < l.length then (l, k) else g l k) c z q := by
  refine ⟨hc, fun l k => ?_, fun l k => ?_⟩
  · split
    · exact Nat.le_refl _
    · exact (h l k).1
  · split
    · exact .inr ⟨by assumption, by simp only [List.length_append]; omega⟩
    · exact (h l k).2
mutual
theorem dl_lays : ∀ d : Nd, Lays (fun l k => dl d l k) (fun P k => cd d P k) (csz d) (clp d)
  | .empty => ⟨fun P k => cd_len _ P k, fun l k => by simp [dl], fun l k => .inl (by simp [dl, cd, clp])⟩
  | .one s => by
    simp only [dl]
    exact lays_cap _ (fun P k => cd_len _ P k) fun l k => ⟨by simp, .inl (by simp [cd, clp])⟩
  | .back n => by
    simp only [dl]
    exact lays_cap _ (fun P k => cd_len _ P k) fun l k => ⟨by simp, .inl (by simp [cd, clp])⟩
  | .start => by
    simp only [dl]
    exact lays_cap _ (fun P k => cd_len _ P k) fun l k => ⟨by simp, .inl (by simp [cd, clp])⟩
  | .fin => by
    simp only [dl]
    exact lays_cap _ (fun P k => cd_len _ P k) fun l k => ⟨by simp, .inl (by simp [cd, clp])⟩
  | .cat ds => by
    simp only [dl]
    exact lays_cap _ (fun P k => cd_len _ P k) fun l k => by rw [cd, clp]; exact dls_lays ds l k
  | .alt ds => by
    simp only [dl]
    refine lays_cap _ (fun P k => cd_len _ P k) fun l k => ?_
    by_cases h : ds = []
    · subst h
      exact ⟨by simp [dla], .inl (by simp [dla, cd, cda, clp, clps])⟩
    · obtain ⟨h1, h2⟩ := dla_lays ds [] l k h
      refine ⟨h1, h2.trans (.inl ?_)⟩
      rw [brs_eq ds [] l k h (by simp), cd, clp]; rfl
  | .group n d => by
    have hd := dl_lays d
    simp only [dl]
    refine lays_cap _ (fun P k => cd_len _ P k) fun l k => ?_
    have h1 := hd.le (l ++ [ins 3 (2 * n) 0]) k
    simp only [List.length_append, List.length_cons, List.length_nil] at h1
    refine ⟨by simp only [List.length_append]; omega, ?_⟩
    rcases hd.eqv (l ++ [ins 3 (2 * n) 0]) k with he | ⟨he, he'⟩
    · try simp only at he
      left
      rw [he]
      simp [cd, clp]
    · simp only [List.length_append, List.length_cons, List.length_nil, cd_len] at he he'
      exact .inr ⟨by simp only [List.length_append]; omega, by simp only [List.length_append, cd_len, csz]; omega⟩
  | .rep d mn mx => by
    have hd := dl_lays d
    have hlen := fun l k => cd_len (.rep d mn mx) l k
    simp only [dl]
    refine lays_cap _ (fun P k => cd_len _ P k) fun l k => ?_
    have hc := dcop_eqv hd (csz_zero d) mn.toNat l k
    have hcl := dcop_le hd.le mn.toNat l k
    have hcz : (copies (fun P k => cd d P k) (csz d) (clp d) mn.toNat l.length k).length = mn.toNat * csz d := copies_len _ _ _ (fun P k => cd_len d P k) _ _ _
    have htl : 3000 < l.length + mn.toNat * csz d → 3000 < (l ++ cd (.rep d mn mx) l.length k).length := by
      intro h
      rw [List.length_append, hlen, csz]; omega
    split
    · rename_i hx
      refine ⟨Nat.le_trans hcl (dend_le hd.le _ _), ?_⟩
      rcases hc with he | ⟨he, he'⟩
      · rw [he]
        have := dend_eqv hd (l ++ copies (fun P k => cd d P k) (csz d) (clp d) mn.toNat l.length k) (k + mn.toNat * clp d)
        refine this.trans (.inl ?_)
        rw [List.length_append, hcz, cd, clp, if_pos hx, if_pos hx]
        simp [Nat.add_assoc]
      · simp only [List.length_append, hcz] at he'
        exact .inr ⟨Nat.lt_of_lt_of_le he (dend_le hd.le _ _), htl he'⟩
    · rename_i hx
      refine ⟨Nat.le_trans hcl (drou_le hd.le _ _ _ _), ?_⟩
      rcases hc with he | ⟨he, he'⟩
      · rw [he]
        have := drou_eqv hd (mx - mn).toNat [] (l ++ copies (fun P k => cd d P k) (csz d) (clp d) mn.toNat l.length k) (k + mn.toNat * clp d) (by simp)
        refine this.trans (.inl ?_)
        rw [List.length_append, hcz, cd, clp, if_neg hx, if_neg hx]
        simp [patchY, Nat.add_assoc]
      · simp only [List.length_append, hcz] at he'
        exact .inr ⟨Nat.lt_of_lt_of_le he (drou_le hd.le _ _ _ _), htl he'⟩
theorem dls_lays : ∀ (ds : List Nd) (l : List Inn) (k : Nat), l.length ≤ (dls ds l k).1.length ∧ Eqv (dls ds l k) (l ++ cds ds l.length k, k + clps ds)
  | [], l, k => ⟨by simp [dls], .inl (by simp [dls, cds, clps])⟩
  | d :: ds, l, k => by
    have hd := dl_lays d
    have h1 := hd.le l k
    have h2 := hd.eqv l k
    try simp only at h1 h2
    rw [dls]
    obtain ⟨h3, h4⟩ := dls_lays ds (dl d l k).1 (dl d l k).2
    refine ⟨Nat.le_trans h1 h3, ?_⟩
    rcases h2 with he | ⟨he, he'⟩
    · rw [he] at h4 ⊢
      refine h4.trans (.inl ?_)
      simp [cds, clps, cd_len, Nat.add_assoc]
    · refine .inr ⟨Nat.lt_of_lt_of_le he h3, ?_⟩
      simp only [List.length_append, cd_len, cds] at he' ⊢
      omega
theorem dla_lays : ∀ (ds : List Nd) (js : List Nat) (l : List Inn) (k : Nat), ds ≠ [] → l.length ≤ (dla ds js l k).1.length ∧ Eqv (dla ds js l k) (brs ds js l k)
  | [], js, l, k, h => absurd rfl h
  | d :: ds, js, l, k, _ => by
    have hd := dl_lays d
    rw [dla, brs]
    split
    · have h1 := hd.le l k
      have h2 := hd.eqv l k
      try simp only at h1 h2
      refine ⟨by simp only [patch_len]; exact h1, ?_⟩
      rcases h2 with he | ⟨he, he'⟩
      · rw [he]
        exact .inl (by simp [cd_len])
      · exact .inr ⟨by simp only [patch_len]; exact he, by simpa only [patch_len] using he'⟩
    · rename_i hne
      have h1 := hd.le (l ++ [ins 1 (l.length + 1 : Nat) 0]) k
      have h2 := hd.eqv (l ++ [ins 1 (l.length + 1 : Nat) 0]) k
      have hl : (l ++ [ins 1 (l.length + 1 : Nat) 0]).length = l.length + 1 := by simp
      simp only [hl] at h1 h2
      obtain ⟨h3, h4⟩ := dla_lays ds (js ++ [(dl d (l ++ [ins 1 (l.length + 1 : Nat) 0]) k).1.length])
        (upd ((dl d (l ++ [ins 1 (l.length + 1 : Nat) 0]) k).1 ++ [ins 2 0 0]) l.length fun i => { i with y := ((dl d (l ++ [ins 1 (l.length + 1 : Nat) 0]) k).1.length + 1 : Nat) }) (dl d (l ++ [ins 1 (l.length + 1 : Nat) 0]) k).2 (by simpa using hne)
      rw [upd_len, List.length_append] at h3
      refine ⟨by omega, ?_⟩
      rcases h2 with he | ⟨he, he'⟩
      · rw [he] at h4 ⊢
        refine h4.trans (.inl ?_)
        simp only [List.length_append, List.length_cons, List.length_nil, cd_len]
        rw [show l ++ [ins 1 (l.length + 1 : Nat) 0] ++ cd d (l.length + 1) k ++ [ins 2 0 0] = l ++ ins 1 (l.length + 1 : Nat) 0 :: (cd d (l.length + 1) k ++ [ins 2 0 0]) by simp, show l.length + (0 + 1) + csz d = l.length + 1 + csz d by omega, show l.length + 1 + csz d + 1 = l.length + csz d + 2 by omega]
      · refine .inr ⟨by omega, Nat.lt_of_lt_of_le ?_ (brs_le ..)⟩
        simp only [List.length_append, hl, cd_len] at he'
        simp only [upd_len, List.length_append, List.length_cons, List.length_nil, cd_len]
        omega
end
end Go.Proofs.Ytjjhkagpoicimaa
