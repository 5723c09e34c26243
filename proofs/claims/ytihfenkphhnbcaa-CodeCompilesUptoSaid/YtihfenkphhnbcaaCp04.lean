/- The proof's texts CoMh, CoMi, CoMm, CoMn, NdAo: what the claim reaches of them. -/
import Derived.Test.YtihfenkphhnbcaaCp03
import Derived.Test.YtihfenkphhnbcaaCp01
import Derived.Test.YtihfenkphhnbcaaRows
import Derived.WalkKit
import Derived.Maps.AppendAt
import Derived.Deep.RegionLaw
import Derived.Laws.OwnMore
namespace Go.Proofs.Ytihfenkphhnbcaa
set_option linter.unusedVariables false
def patchY (v : Int) : List Nat → List Inn → List Inn
  | [], l => l
  | j :: js, l => patchY v js (upd l j fun i => { i with y := v })
theorem patchY_len (v : Int) : ∀ (js : List Nat) (l : List Inn), (patchY v js l).length = l.length
  | [], l => rfl
  | j :: js, l => by rw [patchY, patchY_len v js, upd_len]
theorem patchY_left (v : Int) : ∀ (js : List Nat) (l m : List Inn), (∀ j ∈ js, j < l.length) → patchY v js (l ++ m) = patchY v js l ++ m
  | [], l, m, _ => rfl
  | j :: js, l, m, h => by
    rw [patchY, patchY, upd_left l m j _ (h j (List.mem_cons_self ..)), patchY_left v js _ m (fun j' h' => by rw [upd_len]; exact h j' (List.mem_cons_of_mem _ h'))]
theorem patchY_snoc (v : Int) : ∀ (js : List Nat) (j : Nat) (l : List Inn), patchY v (js ++ [j]) l = upd (patchY v js l) j fun i => { i with y := v }
  | [], j, l => rfl
  | i :: js, j, l => by rw [List.cons_append, patchY, patchY, patchY_snoc v js]
abbrev Lf := List Inn → Nat → List Inn × Nat
def dcop (f : Lf) : Nat → Lf
  | 0, l, k => (l, k)
  | n + 1, l, k => if (f l k).1.length = l.length then f l k else dcop f n (f l k).1 (f l k).2
def dend (f : Lf) (l : List Inn) (k : Nat) : List Inn × Nat :=
  let r := f (l ++ [ins 1 (l.length + 1 : Nat) 0, ins 7 k 0]) (k + 1)
  (upd (r.1 ++ [ins 8 k 0, ins 2 l.length 0]) l.length fun i => { i with y := (r.1.length + 2 : Nat) }, r.2)
def drou (f : Lf) : Nat → List Nat → Lf
  | 0, ss, l, k => (patchY (l.length : Nat) ss l, k)
  | n + 1, ss, l, k => if 3000 < l.length then (patchY (l.length : Nat) ss l, k) else
    let r := f (l ++ [ins 1 (l.length + 1 : Nat) 0, ins 7 k 0]) (k + 1)
    drou f n (ss ++ [l.length]) (r.1 ++ [ins 8 k 0]) r.2
structure Lays (f : Lf) (c : Nat → Nat → List Inn) (z q : Nat) : Prop where
  len : ∀ P k, (c P k).length = z
  le : ∀ l k, l.length ≤ (f l k).1.length
  eqv : ∀ l k, Eqv (f l k) (l ++ c l.length k, k + q)
theorem dcop_le {f : Lf} (h : ∀ l k, l.length ≤ (f l k).1.length) : ∀ (n : Nat) (l : List Inn) (k : Nat), l.length ≤ (dcop f n l k).1.length
  | 0, l, k => Nat.le_refl _
  | n + 1, l, k => by
    rw [dcop]
    split
    · exact h l k
    · exact Nat.le_trans (h l k) (dcop_le h n _ _)
theorem drou_le {f : Lf} (h : ∀ l k, l.length ≤ (f l k).1.length) : ∀ (n : Nat) (ss : List Nat) (l : List Inn) (k : Nat), l.length ≤ (drou f n ss l k).1.length
  | 0, ss, l, k => by simp [drou, patchY_len]
  | n + 1, ss, l, k => by
    rw [drou]
    split
    · simp [patchY_len]
    · have h1 := h (l ++ [ins 1 (l.length + 1 : Nat) 0, ins 7 k 0]) (k + 1)
      refine Nat.le_trans ?_ (drou_le h n _ _ _)
      simp at h1 ⊢; omega
theorem dend_le {f : Lf} (h : ∀ l k, l.length ≤ (f l k).1.length) (l : List Inn) (k : Nat) : l.length ≤ (dend f l k).1.length := by
  have h1 := h (l ++ [ins 1 (l.length + 1 : Nat) 0, ins 7 k 0]) (k + 1)
  unfold dend
  simp [upd_len] at h1 ⊢; omega
theorem dcop_eqv {f : Lf} {c : Nat → Nat → List Inn} {z q : Nat} (h : Lays f c z q) (hz : z = 0 → q = 0) : ∀ (n : Nat) (l : List Inn) (k : Nat), Eqv (dcop f n l k) (l ++ copies c z q n l.length k, k + n * q)
  | 0, l, k => .inl (by simp [dcop, copies])
  | n + 1, l, k => by
    have hc : (copies c z q (n + 1) l.length k).length = (n + 1) * z := copies_len _ _ _ h.len _ _ _
    rw [dcop]
    rcases h.eqv l k with he | ⟨he, he'⟩
    · rw [he]
      simp only [List.length_append, h.len]
      split
      · rename_i hs
        obtain rfl : z = 0 := by omega
        obtain rfl := hz rfl
        have hn : ∀ n P k, copies c 0 0 n P k = [] := fun n P k => List.length_eq_zero_iff.1 (by rw [copies_len _ _ _ h.len]; simp)
        have h0 : c l.length k = [] := List.length_eq_zero_iff.1 (h.len _ _)
        left; rw [hn, h0]; simp
      · have hd := dcop_eqv h hz n (l ++ c l.length k) (k + q)
        rw [copies, Nat.succ_mul]
        simpa [h.len, Nat.add_assoc, Nat.add_comm, Nat.add_left_comm] using hd
    · right
      refine ⟨?_, ?_⟩
      · split
        · exact he
        · exact Nat.lt_of_lt_of_le he (dcop_le h.le n _ _)
      · simp only [List.length_append, h.len, hc, Nat.succ_mul] at he' ⊢
        omega
theorem dend_eqv {f : Lf} {c : Nat → Nat → List Inn} {z q : Nat} (h : Lays f c z q) (l : List Inn) (k : Nat) : Eqv (dend f l k) (l ++ endless c z l.length k, k + (q + 1)) := by
  have hl : (l ++ [ins 1 (l.length + 1 : Nat) 0, ins 7 k 0]).length = l.length + 2 := by simp
  unfold dend
  simp only
  rcases h.eqv (l ++ [ins 1 (l.length + 1 : Nat) 0, ins 7 k 0]) (k + 1) with he | ⟨he, he'⟩
  · left
    rw [he]
    simp only [hl, List.length_append, h.len]
    rw [show l ++ [ins 1 (l.length + 1 : Nat) 0, ins 7 k 0] ++ c (l.length + 2) (k + 1) ++ [ins 8 k 0, ins 2 l.length 0] = l ++ ins 1 (l.length + 1 : Nat) 0 :: (ins 7 k 0 :: (c (l.length + 2) (k + 1) ++ [ins 8 k 0, ins 2 l.length 0])) by simp, upd_mid l _ _ _ _ rfl]
    unfold endless
    simp [ins]
    omega
  · right
    refine ⟨?_, ?_⟩
    · simp only [upd_len, List.length_append]; omega
    · simp only [List.length_append, hl, h.len] at he'
      simp [endless, h.len]; omega
theorem drou_eqv {f : Lf} {c : Nat → Nat → List Inn} {z q : Nat} (h : Lays f c z q) : ∀ (n : Nat) (ss : List Nat) (l : List Inn) (k : Nat), (∀ j ∈ ss, j < l.length) →
    Eqv (drou f n ss l k) (patchY (l.length + n * (z + 3) : Nat) ss l ++ rounds c z q (l.length + n * (z + 3)) n l.length k, k + n * (q + 1))
  | 0, ss, l, k, _ => .inl (by simp [drou, rounds])
  | n + 1, ss, l, k, hj => by
    have hr : ∀ E, (rounds c z q E (n + 1) l.length k).length = (n + 1) * (z + 3) := fun E => rounds_len _ _ _ _ h.len _ _ _
    have hl : (l ++ [ins 1 (l.length + 1 : Nat) 0, ins 7 k 0]).length = l.length + 2 := by simp
    rw [drou]
    split
    · right
      refine ⟨by simp only [patchY_len]; omega, by simp only [List.length_append, patchY_len]; omega⟩
    · simp only
      rcases h.eqv (l ++ [ins 1 (l.length + 1 : Nat) 0, ins 7 k 0]) (k + 1) with he | ⟨he, he'⟩
      · rw [he]
        simp only [hl]
        have hL : (l ++ [ins 1 (l.length + 1 : Nat) 0, ins 7 k 0] ++ c (l.length + 2) (k + 1) ++ [ins 8 k 0]).length = l.length + (z + 3) := by simp only [List.length_append, List.length_cons, List.length_nil, h.len]; omega
        have hd := drou_eqv h n (ss ++ [l.length]) (l ++ [ins 1 (l.length + 1 : Nat) 0, ins 7 k 0] ++ c (l.length + 2) (k + 1) ++ [ins 8 k 0]) (k + 1 + q) (fun j hm => by
          rw [hL]
          rcases List.mem_append.1 hm with hm | hm
          · have := hj j hm; omega
          · obtain rfl : j = l.length := by simpa using hm
            omega)
        rw [hL] at hd
        have hE : l.length + (z + 3) + n * (z + 3) = l.length + (n + 1) * (z + 3) := by rw [Nat.succ_mul]; omega
        rw [hE] at hd
        generalize l.length + (n + 1) * (z + 3) = E at *
        refine hd.trans (.inl ?_)
        rw [patchY_snoc, show l ++ [ins 1 (l.length + 1 : Nat) 0, ins 7 k 0] ++ c (l.length + 2) (k + 1) ++ [ins 8 k 0] = l ++ ins 1 (l.length + 1 : Nat) 0 :: (ins 7 k 0 :: (c (l.length + 2) (k + 1) ++ [ins 8 k 0])) by simp, patchY_left _ ss l _ hj, upd_mid _ _ _ _ _ (by rw [patchY_len]), rounds, Nat.succ_mul]
        rw [show l.length + (z + 3) = l.length + z + 3 by omega, show k + 1 + q = k + q + 1 by omega]
        simp [ins]
        omega
      · right
        refine ⟨?_, ?_⟩
        · refine Nat.lt_of_lt_of_le ?_ (drou_le h.le n _ _ _)
          simp only [List.length_append]; omega
        · simp only [List.length_append, hl, h.len] at he'
          simp only [List.length_append, patchY_len, hr, Nat.succ_mul]
          omega
end Go.Proofs.Ytihfenkphhnbcaa
namespace Go.Proofs.Ytihfenkphhnbcaa
set_option linter.unusedVariables false
mutual
theorem csz_zero : ∀ d : Nd, csz d = 0 → clp d = 0
  | .empty, _ => by simp [clp]
  | .one _, h => by simp [csz] at h
  | .cat l, h => by rw [csz] at h; rw [clp]; exact cszs_zero l h
  | .alt l, h => by rw [csz] at h; rw [clp]; exact cszs_zero l (by omega)
  | .rep d mn mx, h => by
    rw [csz] at h
    rw [clp]
    split at h
    · omega
    · rename_i hx
      have h1 : mn.toNat * csz d = 0 := by omega
      have h2 : (mx - mn).toNat * (csz d + 3) = 0 := by omega
      have h3 : (mx - mn).toNat = 0 := by rcases Nat.mul_eq_zero.1 h2 with h | h <;> omega
      rw [if_neg hx, h3]
      rcases Nat.mul_eq_zero.1 h1 with h | h
      · rw [h]; simp
      · rw [csz_zero d h]; simp
  | .group _ d, h => by rw [csz] at h; omega
  | .back _, h => by simp [csz] at h
  | .start, h => by simp [csz] at h
  | .fin, h => by simp [csz] at h
theorem cszs_zero : ∀ l : List Nd, cszs l = 0 → clps l = 0
  | [], _ => by simp [clps]
  | d :: ds, h => by rw [cszs] at h; rw [clps, csz_zero d (by omega), cszs_zero ds (by omega)]
end
mutual
/-- The document's laying. -/
def dl : Nd → Lf
  | .empty, l, k => (l, k)
  | .one s, l, k => if 3000 < l.length then (l, k) else (l ++ [⟨0, s, 0, 0⟩], k)
  | .cat ds, l, k => if 3000 < l.length then (l, k) else dls ds l k
  | .alt ds, l, k => if 3000 < l.length then (l, k) else dla ds [] l k
  | .rep d mn mx, l, k => if 3000 < l.length then (l, k) else
      if mx = -1 then dend (fun l k => dl d l k) (dcop (fun l k => dl d l k) mn.toNat l k).1 (dcop (fun l k => dl d l k) mn.toNat l k).2
      else drou (fun l k => dl d l k) (mx - mn).toNat [] (dcop (fun l k => dl d l k) mn.toNat l k).1 (dcop (fun l k => dl d l k) mn.toNat l k).2
  | .group n d, l, k => if 3000 < l.length then (l, k) else ((dl d (l ++ [ins 3 (2 * n) 0]) k).1 ++ [ins 3 (2 * n + 1) 0], (dl d (l ++ [ins 3 (2 * n) 0]) k).2)
  | .back n, l, k => if 3000 < l.length then (l, k) else (l ++ [ins 4 n 0], k)
  | .start, l, k => if 3000 < l.length then (l, k) else (l ++ [ins 5 0 0], k)
  | .fin, l, k => if 3000 < l.length then (l, k) else (l ++ [ins 6 0 0], k)
def dls : List Nd → Lf
  | [], l, k => (l, k)
  | d :: ds, l, k => dls ds (dl d l k).1 (dl d l k).2
def dla : List Nd → List Nat → Lf
  | [], js, l, k => (l, k)
  | d :: ds, js, l, k =>
    if ds.isEmpty then (patch ((dl d l k).1.length : Nat) js (dl d l k).1, (dl d l k).2)
    else dla ds (js ++ [(dl d (l ++ [ins 1 (l.length + 1 : Nat) 0]) k).1.length])
      (upd ((dl d (l ++ [ins 1 (l.length + 1 : Nat) 0]) k).1 ++ [ins 2 0 0]) l.length fun i => { i with y := ((dl d (l ++ [ins 1 (l.length + 1 : Nat) 0]) k).1.length + 1 : Nat) }) (dl d (l ++ [ins 1 (l.length + 1 : Nat) 0]) k).2
end
theorem lays_cap {c : Nat → Nat → List Inn} {z q : Nat} (g : Lf) (hc : ∀ P k, (c P k).length = z) (h : ∀ l k, l.length ≤ (g l k).1.length ∧ Eqv (g l k) (l ++ c l.length k, k + q)) :
    Lays (fun l k => if 3000 < l.length then (l, k) else g l k) c z q := by
  refine ⟨hc, fun l k => ?_, fun l k => ?_⟩
  · split
    · exact Nat.le_refl _
    · exact (h l k).1
  · split
    · exact .inr ⟨by assumption, by simp only [List.length_append]; omega⟩
    · exact (h l k).2
mutual
theorem dl_lays : ∀ d : Nd, Lays (fun l k => dl d l k) (fun P k => cd d P k) (csz d) (clp d)
  | .empty => ⟨fun P k => cd_len _ P k, fun l k => by simp [dl], fun l k => .inl (by simp [dl, cd, clp])⟩
  | .one s => by
    simp only [dl]
    exact lays_cap _ (fun P k => cd_len _ P k) fun l k => ⟨by simp, .inl (by simp [cd, clp])⟩
  | .back n => by
    simp only [dl]
    exact lays_cap _ (fun P k => cd_len _ P k) fun l k => ⟨by simp, .inl (by simp [cd, clp])⟩
  | .start => by
    simp only [dl]
    exact lays_cap _ (fun P k => cd_len _ P k) fun l k => ⟨by simp, .inl (by simp [cd, clp])⟩
  | .fin => by
    simp only [dl]
    exact lays_cap _ (fun P k => cd_len _ P k) fun l k => ⟨by simp, .inl (by simp [cd, clp])⟩
  | .cat ds => by
    simp only [dl]
    exact lays_cap _ (fun P k => cd_len _ P k) fun l k => by rw [cd, clp]; exact dls_lays ds l k
  | .alt ds => by
    simp only [dl]
    refine lays_cap _ (fun P k => cd_len _ P k) fun l k => ?_
    by_cases h : ds = []
    · subst h
      exact ⟨by simp [dla], .inl (by simp [dla, cd, cda, clp, clps])⟩
    · obtain ⟨h1, h2⟩ := dla_lays ds [] l k h
      refine ⟨h1, h2.trans (.inl ?_)⟩
      rw [brs_eq ds [] l k h (by simp), cd, clp]; rfl
  | .group n d => by
    have hd := dl_lays d
    simp only [dl]
    refine lays_cap _ (fun P k => cd_len _ P k) fun l k => ?_
    have h1 := hd.le (l ++ [ins 3 (2 * n) 0]) k
    simp only [List.length_append, List.length_cons, List.length_nil] at h1
    refine ⟨by simp only [List.length_append]; omega, ?_⟩
    rcases hd.eqv (l ++ [ins 3 (2 * n) 0]) k with he | ⟨he, he'⟩
    · try simp only at he
      left
      rw [he]
      simp [cd, clp]
    · simp only [List.length_append, List.length_cons, List.length_nil, cd_len] at he he'
      exact .inr ⟨by simp only [List.length_append]; omega, by simp only [List.length_append, cd_len, csz]; omega⟩
  | .rep d mn mx => by
    have hd := dl_lays d
    have hlen := fun l k => cd_len (.rep d mn mx) l k
    simp only [dl]
    refine lays_cap _ (fun P k => cd_len _ P k) fun l k => ?_
    have hc := dcop_eqv hd (csz_zero d) mn.toNat l k
    have hcl := dcop_le hd.le mn.toNat l k
    have hcz : (copies (fun P k => cd d P k) (csz d) (clp d) mn.toNat l.length k).length = mn.toNat * csz d := copies_len _ _ _ (fun P k => cd_len d P k) _ _ _
    have htl : 3000 < l.length + mn.toNat * csz d → 3000 < (l ++ cd (.rep d mn mx) l.length k).length := by
      intro h
      rw [List.length_append, hlen, csz]; omega
    split
    · rename_i hx
      refine ⟨Nat.le_trans hcl (dend_le hd.le _ _), ?_⟩
      rcases hc with he | ⟨he, he'⟩
      · rw [he]
        have := dend_eqv hd (l ++ copies (fun P k => cd d P k) (csz d) (clp d) mn.toNat l.length k) (k + mn.toNat * clp d)
        refine this.trans (.inl ?_)
        rw [List.length_append, hcz, cd, clp, if_pos hx, if_pos hx]
        simp [Nat.add_assoc]
      · simp only [List.length_append, hcz] at he'
        exact .inr ⟨Nat.lt_of_lt_of_le he (dend_le hd.le _ _), htl he'⟩
    · rename_i hx
      refine ⟨Nat.le_trans hcl (drou_le hd.le _ _ _ _), ?_⟩
      rcases hc with he | ⟨he, he'⟩
      · rw [he]
        have := drou_eqv hd (mx - mn).toNat [] (l ++ copies (fun P k => cd d P k) (csz d) (clp d) mn.toNat l.length k) (k + mn.toNat * clp d) (by simp)
        refine this.trans (.inl ?_)
        rw [List.length_append, hcz, cd, clp, if_neg hx, if_neg hx]
        simp [patchY, Nat.add_assoc]
      · simp only [List.length_append, hcz] at he'
        exact .inr ⟨Nat.lt_of_lt_of_le he (drou_le hd.le _ _ _ _), htl he'⟩
theorem dls_lays : ∀ (ds : List Nd) (l : List Inn) (k : Nat), l.length ≤ (dls ds l k).1.length ∧ Eqv (dls ds l k) (l ++ cds ds l.length k, k + clps ds)
  | [], l, k => ⟨by simp [dls], .inl (by simp [dls, cds, clps])⟩
  | d :: ds, l, k => by
    have hd := dl_lays d
    have h1 := hd.le l k
    have h2 := hd.eqv l k
    try simp only at h1 h2
    rw [dls]
    obtain ⟨h3, h4⟩ := dls_lays ds (dl d l k).1 (dl d l k).2
    refine ⟨Nat.le_trans h1 h3, ?_⟩
    rcases h2 with he | ⟨he, he'⟩
    · rw [he] at h4 ⊢
      refine h4.trans (.inl ?_)
      simp [cds, clps, cd_len, Nat.add_assoc]
    · refine .inr ⟨Nat.lt_of_lt_of_le he h3, ?_⟩
      simp only [List.length_append, cd_len, cds] at he' ⊢
      omega
theorem dla_lays : ∀ (ds : List Nd) (js : List Nat) (l : List Inn) (k : Nat), ds ≠ [] → l.length ≤ (dla ds js l k).1.length ∧ Eqv (dla ds js l k) (brs ds js l k)
  | [], js, l, k, h => absurd rfl h
  | d :: ds, js, l, k, _ => by
    have hd := dl_lays d
    rw [dla, brs]
    split
    · have h1 := hd.le l k
      have h2 := hd.eqv l k
      try simp only at h1 h2
      refine ⟨by simp only [patch_len]; exact h1, ?_⟩
      rcases h2 with he | ⟨he, he'⟩
      · rw [he]
        exact .inl (by simp [cd_len])
      · exact .inr ⟨by simp only [patch_len]; exact he, by simpa only [patch_len] using he'⟩
    · rename_i hne
      have h1 := hd.le (l ++ [ins 1 (l.length + 1 : Nat) 0]) k
      have h2 := hd.eqv (l ++ [ins 1 (l.length + 1 : Nat) 0]) k
      have hl : (l ++ [ins 1 (l.length + 1 : Nat) 0]).length = l.length + 1 := by simp
      simp only [hl] at h1 h2
      obtain ⟨h3, h4⟩ := dla_lays ds (js ++ [(dl d (l ++ [ins 1 (l.length + 1 : Nat) 0]) k).1.length])
        (upd ((dl d (l ++ [ins 1 (l.length + 1 : Nat) 0]) k).1 ++ [ins 2 0 0]) l.length fun i => { i with y := ((dl d (l ++ [ins 1 (l.length + 1 : Nat) 0]) k).1.length + 1 : Nat) }) (dl d (l ++ [ins 1 (l.length + 1 : Nat) 0]) k).2 (by simpa using hne)
      rw [upd_len, List.length_append] at h3
      refine ⟨by omega, ?_⟩
      rcases h2 with he | ⟨he, he'⟩
      · rw [he] at h4 ⊢
        refine h4.trans (.inl ?_)
        simp only [List.length_append, List.length_cons, List.length_nil, cd_len]
        rw [show l ++ [ins 1 (l.length + 1 : Nat) 0] ++ cd d (l.length + 1) k ++ [ins 2 0 0] = l ++ ins 1 (l.length + 1 : Nat) 0 :: (cd d (l.length + 1) k ++ [ins 2 0 0]) by simp, show l.length + (0 + 1) + csz d = l.length + 1 + csz d by omega, show l.length + 1 + csz d + 1 = l.length + csz d + 2 by omega]
      · refine .inr ⟨by omega, Nat.lt_of_lt_of_le ?_ (brs_le ..)⟩
        simp only [List.length_append, hl, cd_len] at he'
        simp only [upd_len, List.length_append, List.length_cons, List.length_nil, cd_len]
        omega
end
end Go.Proofs.Ytihfenkphhnbcaa
namespace Go.Proofs.Ytihfenkphhnbcaa
set_option linter.unusedVariables false
def Few4 (f : Lf) (n : Nat) : Prop := ∀ l k, (f l k).1.length + 2 ≤ max l.length 3000 + 6 * n
theorem few_cap {f : Lf} {n : Nat} (hn : 1 ≤ n) (h : ∀ l k, l.length ≤ 3000 → (f l k).1.length + 2 ≤ 3000 + 6 * n) : Few4 (fun l k => if 3000 < l.length then (l, k) else f l k) n := fun l k => by
  simp only
  split
  · simp only; omega
  · have := h l k (by omega); omega
def Stops (f : Lf) : Prop := ∀ l k, 3000 < l.length → f l k = (l, k)
theorem few_cop {f : Lf} {n : Nat} (hn : 1 ≤ n) (h : Few4 f n) (hs : Stops f) : ∀ (m : Nat) (l : List Inn) (k : Nat), (dcop f m l k).1.length + 2 ≤ max l.length 3000 + 6 * n
  | 0, l, k => by simp only [dcop]; omega
  | m + 1, l, k => by
    rw [dcop]
    have h1 := h l k
    split
    · exact h1
    · rename_i he
      by_cases hl : 3000 < l.length
      · rw [hs l k hl] at he; exact absurd rfl he
      · by_cases h2 : 3000 < (f l k).1.length
        · cases m with
          | zero => simpa [dcop] using h1
          | succ m =>
            rw [dcop, hs _ _ h2, if_pos rfl]
            exact h1
        · have := few_cop hn h hs m (f l k).1 (f l k).2
          omega
theorem few_rou {f : Lf} {n : Nat} (h : Few4 f n) : ∀ (m : Nat) (ss : List Nat) (l : List Inn) (k : Nat), (drou f m ss l k).1.length ≤ max l.length 3000 + 6 * n + 1
  | 0, ss, l, k => by simp only [drou, patchY_len]; omega
  | m + 1, ss, l, k => by
    rw [drou]
    split
    · simp only [patchY_len]; omega
    · rename_i hl
      have h1 := h (l ++ [ins 1 (l.length + 1 : Nat) 0, ins 7 k 0]) (k + 1)
      simp only [List.length_append, List.length_cons, List.length_nil] at h1
      have hr := fun l' k' => few_rou h m (ss ++ [l.length]) l' k'
      by_cases h2 : 3000 < (f (l ++ [ins 1 (l.length + 1 : Nat) 0, ins 7 k 0]) (k + 1)).1.length + 1
      · cases m with
        | zero =>
          simp only [drou, patchY_len, List.length_append, List.length_cons, List.length_nil]
          omega
        | succ m =>
          rw [drou]
          simp only [List.length_append, List.length_cons, List.length_nil]
          rw [if_pos h2]
          simp only [patchY_len, List.length_append, List.length_cons, List.length_nil]
          omega
      · have := hr ((f (l ++ [ins 1 (l.length + 1 : Nat) 0, ins 7 k 0]) (k + 1)).1 ++ [ins 8 k 0]) (f (l ++ [ins 1 (l.length + 1 : Nat) 0, ins 7 k 0]) (k + 1)).2
        simp only [List.length_append, List.length_cons, List.length_nil] at this
        simp only
        omega
theorem few_end {f : Lf} {n : Nat} (h : Few4 f n) (l : List Inn) (k : Nat) : (dend f l k).1.length ≤ max (l.length + 2) 3000 + 6 * n := by
  have h1 := h (l ++ [ins 1 (l.length + 1 : Nat) 0, ins 7 k 0]) (k + 1)
  unfold dend
  simp only [List.length_append, List.length_cons, List.length_nil, upd_len] at h1 ⊢
  omega
theorem dl_stops (d : Nd) : Stops (fun l k => dl d l k) := fun l k h => by
  cases d <;> simp [dl, h]
mutual
theorem dl_few : ∀ d : Nd, Few4 (fun l k => dl d l k) (nsize d)
  | .empty => fun l k => by simp only [dl, nsize]; omega
  | .one s => by simp only [dl]; exact few_cap (nsize_one _) fun l k h => by simp [nsize]; omega
  | .back n => by simp only [dl]; exact few_cap (nsize_one _) fun l k h => by simp [nsize]; omega
  | .start => by simp only [dl]; exact few_cap (nsize_one _) fun l k h => by simp [nsize]; omega
  | .fin => by simp only [dl]; exact few_cap (nsize_one _) fun l k h => by simp [nsize]; omega
  | .cat ds => by
    simp only [dl]
    exact few_cap (nsize_one _) fun l k h => by have := dls_few ds l k; rw [nsize]; omega
  | .alt ds => by
    simp only [dl]
    exact few_cap (nsize_one _) fun l k h => by have := dla_few ds [] l k; rw [nsize]; omega
  | .group n d => by
    have hd := dl_few d
    simp only [dl]
    refine few_cap (nsize_one _) fun l k h => ?_
    have := hd (l ++ [ins 3 (2 * n) 0]) k
    simp only [List.length_append, List.length_cons, List.length_nil] at this ⊢
    rw [nsize]; omega
  | .rep d mn mx => by
    have hd := dl_few d
    simp only [dl]
    refine few_cap (nsize_one _) fun l k h => ?_
    have h1 := few_cop (nsize_one d) hd (dl_stops d) mn.toNat l k
    have hn := nsize_one d
    rw [nsize]
    generalize dcop (fun l k => dl d l k) mn.toNat l k = r at h1 ⊢
    obtain ⟨l', k'⟩ := r
    simp only at h1 ⊢
    by_cases hl : 3000 < l'.length
    · split
      · unfold dend
        rw [dl_stops d _ _ (by simp only [List.length_append, List.length_cons, List.length_nil]; omega)]
        simp only [List.length_append, List.length_cons, List.length_nil, upd_len]
        omega
      · cases (mx - mn).toNat with
        | zero => simp only [drou, patchY_len]; omega
        | succ m => rw [drou, if_pos hl]; simp only [patchY_len]; omega
    · split
      · have h2 := few_end hd l' k'
        omega
      · have h2 := few_rou hd (mx - mn).toNat [] l' k'
        omega
theorem dls_few : ∀ (ds : List Nd) (l : List Inn) (k : Nat), (dls ds l k).1.length ≤ max l.length 3000 + 6 * nsizes ds
  | [], l, k => by simp only [dls]; omega
  | d :: ds, l, k => by
    rw [dls, nsizes]
    have h1 := dl_few d l k
    have h2 := dls_few ds (dl d l k).1 (dl d l k).2
    simp only at h1
    omega
theorem dla_few : ∀ (ds : List Nd) (js : List Nat) (l : List Inn) (k : Nat), (dla ds js l k).1.length ≤ max l.length 3000 + 6 * nsizes ds
  | [], js, l, k => by simp only [dla]; omega
  | d :: ds, js, l, k => by
    rw [dla, nsizes]
    have hn := nsize_one d
    split
    · have h1 := dl_few d l k
      simp only [patch_len] at h1 ⊢
      omega
    · have h1 := dl_few d (l ++ [ins 1 (l.length + 1 : Nat) 0]) k
      refine Nat.le_trans (dla_few ds _ _ _) ?_
      simp only [upd_len, List.length_append, List.length_cons, List.length_nil] at h1 ⊢
      omega
end
end Go.Proofs.Ytihfenkphhnbcaa
namespace Go.Proofs.Ytihfenkphhnbcaa
set_option linter.unusedVariables false
def Lps (f : Lf) : Prop := ∀ l k, (f l k).2 + l.length ≤ k + (f l k).1.length ∧ l.length ≤ (f l k).1.length ∧ k ≤ (f l k).2
theorem lps_cap {f : Lf} (h : Lps f) : Lps (fun l k => if 3000 < l.length then (l, k) else f l k) := fun l k => by
  simp only
  split
  · exact ⟨by simp only; omega, Nat.le_refl _, Nat.le_refl _⟩
  · exact h l k
theorem lps_cop {f : Lf} (h : Lps f) : ∀ m, Lps (dcop f m)
  | 0 => fun l k => by simp only [dcop]; omega
  | m + 1 => fun l k => by
    rw [dcop]
    have h1 := h l k
    split
    · exact h1
    · have h2 := lps_cop h m (f l k).1 (f l k).2
      omega
theorem lps_end {f : Lf} (h : Lps f) : Lps (dend f) := fun l k => by
  have h1 := h (l ++ [ins 1 (l.length + 1 : Nat) 0, ins 7 k 0]) (k + 1)
  unfold dend
  simp only [List.length_append, List.length_cons, List.length_nil, upd_len] at h1 ⊢
  omega
theorem lps_rou {f : Lf} (h : Lps f) : ∀ m ss, Lps (drou f m ss)
  | 0, ss => fun l k => by simp only [drou, patchY_len]; omega
  | m + 1, ss => fun l k => by
    rw [drou]
    split
    · simp only [patchY_len]; omega
    · have h1 := h (l ++ [ins 1 (l.length + 1 : Nat) 0, ins 7 k 0]) (k + 1)
      have h2 := lps_rou h m (ss ++ [l.length]) ((f (l ++ [ins 1 (l.length + 1 : Nat) 0, ins 7 k 0]) (k + 1)).1 ++ [ins 8 k 0]) (f (l ++ [ins 1 (l.length + 1 : Nat) 0, ins 7 k 0]) (k + 1)).2
      simp only [List.length_append, List.length_cons, List.length_nil] at h1 h2 ⊢
      omega
mutual
theorem dl_lps : ∀ d : Nd, Lps (fun l k => dl d l k)
  | .empty => fun l k => by simp only [dl]; omega
  | .one s => by simp only [dl]; exact lps_cap fun l k => by simp
  | .back n => by simp only [dl]; exact lps_cap fun l k => by simp
  | .start => by simp only [dl]; exact lps_cap fun l k => by simp
  | .fin => by simp only [dl]; exact lps_cap fun l k => by simp
  | .cat ds => by simp only [dl]; exact lps_cap fun l k => dls_lps ds l k
  | .alt ds => by simp only [dl]; exact lps_cap fun l k => dla_lps ds [] l k
  | .group n d => by
    have hd := dl_lps d
    simp only [dl]
    refine lps_cap fun l k => ?_
    have := hd (l ++ [ins 3 (2 * n) 0]) k
    simp only [List.length_append, List.length_cons, List.length_nil] at this ⊢
    omega
  | .rep d mn mx => by
    have hd := dl_lps d
    simp only [dl]
    refine lps_cap fun l k => ?_
    have h1 := lps_cop hd mn.toNat l k
    generalize dcop (fun l k => dl d l k) mn.toNat l k = r at h1 ⊢
    obtain ⟨l', k'⟩ := r
    split
    · have h2 := lps_end hd l' k'
      simp only at h1 h2 ⊢
      omega
    · have h2 := lps_rou hd (mx - mn).toNat [] l' k'
      simp only at h1 h2 ⊢
      omega
theorem dls_lps : ∀ ds : List Nd, Lps (dls ds)
  | [] => fun l k => by simp only [dls]; omega
  | d :: ds => fun l k => by
    rw [dls]
    have h1 := dl_lps d l k
    have h2 := dls_lps ds (dl d l k).1 (dl d l k).2
    simp only at h1
    omega
theorem dla_lps : ∀ (ds : List Nd) (js : List Nat), Lps (dla ds js)
  | [], js => fun l k => by simp only [dla]; omega
  | d :: ds, js => fun l k => by
    rw [dla]
    split
    · have h1 := dl_lps d l k
      simp only [patch_len] at h1 ⊢
      omega
    · have h1 := dl_lps d (l ++ [ins 1 (l.length + 1 : Nat) 0]) k
      refine (fun (h2 : _ ∧ _ ∧ _) => ?_) (dla_lps ds (js ++ [(dl d (l ++ [ins 1 (l.length + 1 : Nat) 0]) k).1.length]) (upd ((dl d (l ++ [ins 1 (l.length + 1 : Nat) 0]) k).1 ++ [ins 2 0 0]) l.length fun i => { i with y := ((dl d (l ++ [ins 1 (l.length + 1 : Nat) 0]) k).1.length + 1 : Nat) }) (dl d (l ++ [ins 1 (l.length + 1 : Nat) 0]) k).2)
      simp only [upd_len, List.length_append, List.length_cons, List.length_nil] at h1 h2 ⊢
      omega
end
end Go.Proofs.Ytihfenkphhnbcaa
namespace Go.Proofs.Ytihfenkphhnbcaa
open Go.RowKit
def NdAt (F : Nat → Prop) : Nat → World → Nd → Value → Prop
  | 0, _, _, _ => False
  | n + 1, w, d, v => match d with
    | .empty => v = .iface 80 (.agg #[]) ∨ v = .nilIface
    | .one s => v = .iface 55 (.agg #[.int .u64 (ow s 0), .int .u64 (ow s 1), .int .u64 (ow s 2), .int .u64 (ow s 3)])
    | .cat l => ∃ a cap, v = .iface 71 (.agg #[.slice a l.length cap]) ∧ l.length ≤ cap ∧ cap ≤ maxLen ∧
        (0 < l.length → ∃ b o, a = some ⟨b, o, none⟩ ∧ F b ∧ b < w.heap.size ∧ ∀ i (h : i < l.length), ∃ u, w.cell? ⟨b, o + i, none⟩ = some u ∧ NdAt F n w l[i] u)
    | .alt l => ∃ a cap, v = .iface 72 (.agg #[.slice a l.length cap]) ∧ l.length ≤ cap ∧ cap ≤ maxLen ∧
        (0 < l.length → ∃ b o, a = some ⟨b, o, none⟩ ∧ F b ∧ b < w.heap.size ∧ ∀ i (h : i < l.length), ∃ u, w.cell? ⟨b, o + i, none⟩ = some u ∧ NdAt F n w l[i] u)
    | .rep d mn mx => ∃ u, v = .iface 57 (.agg #[u, .int .i64 mn, .int .i64 mx]) ∧ NdAt F n w d u
    | .group num d => ∃ u, v = .iface 74 (.agg #[.int .i64 num, u]) ∧ NdAt F n w d u
    | .back num => v = .iface 76 (.agg #[.int .i64 num])
    | .start => v = .iface 78 (.agg #[])
    | .fin => v = .iface 79 (.agg #[])
def NdRow (F : Nat → Prop) (n : Nat) (w : World) (l : List Nd) (a : Option Addr) (cap : Nat) : Prop :=
  l.length ≤ cap ∧ cap ≤ maxLen ∧ (0 < l.length → ∃ b o, a = some ⟨b, o, none⟩ ∧ F b ∧ b < w.heap.size ∧ ∀ i (h : i < l.length), ∃ u, w.cell? ⟨b, o + i, none⟩ = some u ∧ NdAt F n w l[i] u)
theorem NdAt.keep {F G : Nat → Prop} {w w' : World} (hs : w.heap.size ≤ w'.heap.size) (hF : ∀ b, F b → b < w.heap.size → G b ∧ ∀ o, w'.cell? ⟨b, o, none⟩ = w.cell? ⟨b, o, none⟩) :
    ∀ (n : Nat) (d : Nd) (v : Value), NdAt F n w d v → NdAt G n w' d v := by
  intro n
  induction n with
  | zero => intro d v h; exact h
  | succ n ih =>
    have hrow : ∀ (l : List Nd) (a : Option Addr), (0 < l.length → ∃ b o, a = some ⟨b, o, none⟩ ∧ F b ∧ b < w.heap.size ∧ ∀ i (h : i < l.length), ∃ u, w.cell? ⟨b, o + i, none⟩ = some u ∧ NdAt F n w l[i] u) →
        (0 < l.length → ∃ b o, a = some ⟨b, o, none⟩ ∧ G b ∧ b < w'.heap.size ∧ ∀ i (h : i < l.length), ∃ u, w'.cell? ⟨b, o + i, none⟩ = some u ∧ NdAt G n w' l[i] u) := by
      intro l a h h0
      obtain ⟨b, o, rfl, hf, hb, hx⟩ := h h0
      refine ⟨b, o, rfl, (hF b hf hb).1, Nat.lt_of_lt_of_le hb hs, fun i hi => ?_⟩
      obtain ⟨u, hu, hr⟩ := hx i hi
      exact ⟨u, ((hF b hf hb).2 _).trans hu, ih _ _ hr⟩
    intro d v h
    cases d with
    | empty => exact h
    | one s => exact h
    | cat l =>
      obtain ⟨a, cap, h1, h2, h3, h4⟩ := h
      exact ⟨a, cap, h1, h2, h3, hrow l a h4⟩
    | alt l =>
      obtain ⟨a, cap, h1, h2, h3, h4⟩ := h
      exact ⟨a, cap, h1, h2, h3, hrow l a h4⟩
    | rep d mn mx =>
      obtain ⟨u, h1, h2⟩ := h
      exact ⟨u, h1, ih _ _ h2⟩
    | group num d =>
      obtain ⟨u, h1, h2⟩ := h
      exact ⟨u, h1, ih _ _ h2⟩
    | back num => exact h
    | start => exact h
    | fin => exact h
theorem NdAt.below {F : Nat → Prop} {w w' : World} (hb : Below w.heap.size w w') (n : Nat) (d : Nd) (v : Value) (h : NdAt F n w d v) : NdAt F n w' d v :=
  h.keep hb.size (fun b hf hlt => ⟨hf, fun o => hb.cell (p := ⟨b, o, none⟩) hlt⟩)
theorem NdAt.wider {F G : Nat → Prop} {w : World} (hFG : ∀ b, F b → b < w.heap.size → G b) (n : Nat) (d : Nd) (v : Value) (h : NdAt F n w d v) : NdAt G n w d v :=
  h.keep (Nat.le_refl _) (fun b hf hlt => ⟨hFG b hf hlt, fun _ => rfl⟩)
theorem NdAt.more {F : Nat → Prop} {w : World} : ∀ (n m : Nat) (d : Nd) (v : Value), n ≤ m → NdAt F n w d v → NdAt F m w d v := by
  intro n
  induction n with
  | zero => intro m d v _ h; exact h.elim
  | succ n ih =>
    intro m d v hm h
    obtain ⟨m, rfl⟩ : ∃ m', m = m' + 1 := ⟨m - 1, by omega⟩
    have hrow : ∀ (l : List Nd) (a : Option Addr), (0 < l.length → ∃ b o, a = some ⟨b, o, none⟩ ∧ F b ∧ b < w.heap.size ∧ ∀ i (h : i < l.length), ∃ u, w.cell? ⟨b, o + i, none⟩ = some u ∧ NdAt F n w l[i] u) →
        (0 < l.length → ∃ b o, a = some ⟨b, o, none⟩ ∧ F b ∧ b < w.heap.size ∧ ∀ i (h : i < l.length), ∃ u, w.cell? ⟨b, o + i, none⟩ = some u ∧ NdAt F m w l[i] u) := by
      intro l a h h0
      obtain ⟨b, o, rfl, hf, hb, hx⟩ := h h0
      refine ⟨b, o, rfl, hf, hb, fun i hi => ?_⟩
      obtain ⟨u, hu, hr⟩ := hx i hi
      exact ⟨u, hu, ih _ _ _ (by omega) hr⟩
    cases d with
    | empty => exact h
    | one s => exact h
    | cat l =>
      obtain ⟨a, cap, h1, h2, h3, h4⟩ := h
      exact ⟨a, cap, h1, h2, h3, hrow l a h4⟩
    | alt l =>
      obtain ⟨a, cap, h1, h2, h3, h4⟩ := h
      exact ⟨a, cap, h1, h2, h3, hrow l a h4⟩
    | rep d mn mx =>
      obtain ⟨u, h1, h2⟩ := h
      exact ⟨u, h1, ih _ _ _ (by omega) h2⟩
    | group num d =>
      obtain ⟨u, h1, h2⟩ := h
      exact ⟨u, h1, ih _ _ _ (by omega) h2⟩
    | back num => exact h
    | start => exact h
    | fin => exact h
theorem NdRow.wider {F G : Nat → Prop} {w : World} (hFG : ∀ b, F b → b < w.heap.size → G b) {n : Nat} {l : List Nd} {a : Option Addr} {cap : Nat} (h : NdRow F n w l a cap) : NdRow G n w l a cap := by
  refine ⟨h.1, h.2.1, fun h0 => ?_⟩
  obtain ⟨b, o, rfl, hf, hb, hx⟩ := h.2.2 h0
  refine ⟨b, o, rfl, hFG b hf hb, hb, fun i hi => ?_⟩
  obtain ⟨u, hu, hr⟩ := hx i hi
  exact ⟨u, hu, NdAt.wider hFG _ _ _ hr⟩
theorem nd_shape {F : Nat → Prop} {n : Nat} {w : World} {d : Nd} {v : Value} (h : NdAt F n w d v) : (∃ T p, v = .iface T p) ∨ v = .nilIface := by
  cases n with
  | zero => exact h.elim
  | succ n =>
    cases d with
    | empty => exact h.elim (fun h => .inl ⟨_, _, h⟩) .inr
    | one s => exact .inl ⟨_, _, h⟩
    | cat l => obtain ⟨a, cap, h1, _⟩ := h; exact .inl ⟨_, _, h1⟩
    | alt l => obtain ⟨a, cap, h1, _⟩ := h; exact .inl ⟨_, _, h1⟩
    | rep d mn mx => obtain ⟨u, h1, _⟩ := h; exact .inl ⟨_, _, h1⟩
    | group num d => obtain ⟨u, h1, _⟩ := h; exact .inl ⟨_, _, h1⟩
    | back num => exact .inl ⟨_, _, h⟩
    | start => exact .inl ⟨_, _, h⟩
    | fin => exact .inl ⟨_, _, h⟩
end Go.Proofs.Ytihfenkphhnbcaa
namespace Go.Proofs.Ytihfenkphhnbcaa
open Go.RowKit
theorem nd_own_below {w w' : World} {base : Nat} {e : TypeId} {size : Nat} {v : Value} {n : Nat} {xs : List Value} (h : w.ownsRow base e size v n xs) (hb : Below w.heap.size w w') : w'.ownsRow base e size v n xs := by
  obtain ⟨h1, h2⟩ := h
  refine ⟨h1, ?_⟩
  rcases h2 with h2 | ⟨g, cap, cur, a, b, c, d⟩
  · exact .inl h2
  · exact .inr ⟨g, cap, cur, a, b, by rw [hb.block g (Array.getElem?_eq_some_iff.1 c).1]; exact c, d⟩
def NdOwn (B n : Nat) (w : World) (l : List Nd) (v : Value) (us : List Value) : Prop :=
  us.length = l.length ∧ w.ownsRow B 37 1 v us.length us ∧ ∀ i (h : i < l.length) (h2 : i < us.length), NdAt (fun b => B ≤ b ∧ v.ownBlock ≠ some b) n w l[i] us[i]
theorem NdOwn.nil (B n : Nat) (w : World) : NdOwn B n w [] (.slice none 0 0) [] :=
  ⟨rfl, World.ownsRow_nil _ _ _ _, fun i h => absurd h (by simp)⟩
theorem NdOwn.below {B n : Nat} {w w' : World} {l : List Nd} {v : Value} {us : List Value} (h : NdOwn B n w l v us) (hb : Below w.heap.size w w') : NdOwn B n w' l v us :=
  ⟨h.1, nd_own_below h.2.1 hb, fun i h1 h2 => NdAt.below hb _ _ _ (h.2.2 i h1 h2)⟩
theorem NdOwn.lt {B n : Nat} {w : World} {l : List Nd} {v : Value} {us : List Value} (h : NdOwn B n w l v us) (g : Nat) (hg : v.ownBlock = some g) : g < w.heap.size := by
  obtain ⟨_, ⟨_, h2⟩, _⟩ := h
  rcases h2 with ⟨rfl, _⟩ | ⟨g', cap, cur, rfl, _, hh, _⟩
  · simp [Value.ownBlock] at hg
  · simp [Value.ownBlock] at hg
    subst hg
    exact (Array.getElem?_eq_some_iff.1 hh).1
theorem own_of {w : World} {base : Nat} {e : TypeId} {size : Nat} {v : Value} {n : Nat} {xs : List Value} (h : w.ownsRow base e size v n xs) : ∀ k, v.ownBlock = some k → base ≤ k := by
  obtain ⟨_, h2⟩ := h
  intro k hk
  rcases h2 with ⟨rfl, _⟩ | ⟨g, cap, cur, rfl, hg, _⟩
  · simp [Value.ownBlock] at hk
  · simp [Value.ownBlock] at hk; omega
theorem NdOwn.push {B n : Nat} {w w' : World} {l : List Nd} {v v' : Value} {us : List Value} {d : Nd} {u : Value} (h : NdOwn B n w l v us) (hu : NdAt (fun b => B ≤ b ∧ v.ownBlock ≠ some b) n w d u)
    (hown : w'.ownsRow B 37 1 v' (us.length + 1) (us ++ [u])) (hg : w.grownBy w' v.ownBlock) (hb : v'.ownBlock = v.ownBlock ∨ v'.ownBlock = some w.heap.size) : NdOwn B n w' (l ++ [d]) v' (us ++ [u]) := by
  have hk : ∀ d u, NdAt (fun b => B ≤ b ∧ v.ownBlock ≠ some b) n w d u → NdAt (fun b => B ≤ b ∧ v'.ownBlock ≠ some b) n w' d u := fun d u hd =>
    NdAt.keep hg.size (fun b hf hlt => ⟨⟨hf.1, by
      rcases hb with e | e
      · rw [e]; exact hf.2
      · rw [e]; intro he; injection he with he; omega⟩, fun o => World.cell?_of_block (w := w) (a := ⟨b, o, none⟩) (hg.block b hlt (fun e => hf.2 e.symm))⟩) n d u hd
  refine ⟨by simp [h.1], by rw [List.length_append]; exact hown, fun i h1 h2 => ?_⟩
  by_cases hi : i < l.length
  · rw [List.getElem_append_left hi, List.getElem_append_left (by rw [h.1]; exact hi)]
    exact hk _ _ (h.2.2 i hi (by rw [h.1]; exact hi))
  · have hie : i = l.length := by simp at h1; omega
    subst hie
    rw [List.getElem_append_right (Nat.le_refl _), List.getElem_append_right (by rw [h.1]; exact Nat.le_refl _)]
    simp [h.1]
    exact hk _ _ hu
theorem NdOwn.row {B n : Nat} {w : World} {l : List Nd} {v : Value} {us : List Value} (h : NdOwn B n w l v us) : ∃ a cap, v = .slice a l.length cap ∧ NdRow (fun b => B ≤ b) n w l a cap := by
  obtain ⟨h1, ⟨h2a, h2⟩, h3⟩ := h
  rcases h2 with ⟨rfl, hz⟩ | ⟨g, cap, cur, rfl, hg, hh, hn, hcap, hcs, htk⟩
  · have h0 : l.length = 0 := by omega
    exact ⟨none, 0, by rw [h0], by omega, by omega, fun h => by omega⟩
  · refine ⟨some ⟨g, 0, none⟩, cap, by rw [h1], by omega, hcap, fun h0 => ⟨g, 0, rfl, hg, (Array.getElem?_eq_some_iff.1 hh).1, fun i hi => ?_⟩⟩
    have hiu : i < us.length := by omega
    refine ⟨us[i], ?_, NdAt.wider (fun b hb _ => hb.1) _ _ _ (h3 i hi hiu)⟩
    have h4 : w.cell? ⟨g, 0 + i, none⟩ = cur[i]? := by simp [World.cell?, hh]
    have h5 : (cur.toList.take (us.length * 1))[i]? = us[i]? := by rw [htk]
    rw [List.getElem?_take_of_lt (by omega)] at h5
    rw [h4, ← Array.getElem?_toList, h5, List.getElem?_eq_getElem hiu]
end Go.Proofs.Ytihfenkphhnbcaa
namespace Go.Proofs.Ytihfenkphhnbcaa
open Go
section
variable {P : Program} {w : World}
theorem step_append_any {ops : Array Oper} {o : Oper} {a : Act} {K : Act → World → Prop} {Q : Exit → Act → World → Prop} {E : Prop} (hgd : o.guard = none) (s x : Operand) (t : TypeId)
    (ho : o.op = .call { callee := .builtin .append, args := #[s, x], argTypes := #[t, t] })
    (base : Nat) (e : TypeId) (i : TypeInfo) (z : Value) (size bytes : Nat) (ht : P.underlying t = some (.slice e)) (hi : P.info? e = some i) (hz : i.zero = some z)
    (hsize : i.size = size) (hby : i.bytes = bytes) (hzs : z.cells.size = size) (hsz : 0 < size)
    (v : Value) (n : Nat) (xs : List Value) (hs : a.eval s = v) (hown : w.ownsRow base e size v n xs)
    (oa : Option Addr) (m c : Nat) (news : List Value) (hx : a.eval x = .slice oa m c) (hl : news.length = m * size) (hnews : 0 < m → ∃ a, oa = some a ∧ ∀ j u, news[j]? = some u → w.cell? (a.add j) = some u) (h1 : ∀ u ∈ news, u.oneCell' = true)
    (h63 : n + m ≤ maxLen) (hbytes : (n + m) * bytes ≤ 140737488355328) (hbase : base ≤ w.heap.size)
    (h : ∀ v' w', w'.ownsRow base e size v' (n + m) (xs ++ news) → w.grownBy w' v.ownBlock → (v'.ownBlock = v.ownBlock ∨ v'.ownBlock = some w.heap.size) → K (a.put o.dst v') w') :
    if Region.wanted o (yielded ops a.tmps) = true then Oper.wp P o a w K Q else E := by
  rw [if_pos (by simp [Region.wanted, hgd])]
  obtain ⟨v', w', hr, h2, h3, h4⟩ := run_append_own_any (P := P) w base t o.type e i z size bytes ht hi hz hsize hby hzs hsz v n xs hown oa m c news hl hnews h1 h63 hbytes hbase
  unfold Oper.wp execOp
  simp only [ho, resolve, invoke, builtin, Sem.run_bind, Sem.run_pure, Result.andThen_ok, List.map_toArray, List.map_cons, List.map_nil, hs, hx, hr]
  exact h v' w' h2 h3 h4
theorem own_row {base : Nat} {e : TypeId} {v : Value} {n : Nat} {xs : List Value} {w : World} (h : w.ownsRow base e 1 v n xs) (hx : xs.length = n) :
    ∃ a cap, v = .slice a n cap ∧ n ≤ cap ∧ cap ≤ maxLen ∧ (0 < n → ∃ g, a = some ⟨g, 0, none⟩ ∧ base ≤ g ∧ g < w.heap.size ∧ ∀ i (h : i < xs.length), w.cell? ⟨g, 0 + i, none⟩ = some xs[i]) := by
  obtain ⟨h1, h2⟩ := h
  rcases h2 with ⟨rfl, hz⟩ | ⟨g, cap, cur, rfl, hg, hh, hn, hcap, hcs, htk⟩
  · subst hz
    exact ⟨none, 0, rfl, Nat.le_refl _, Nat.zero_le _, fun h => absurd h (by omega)⟩
  · refine ⟨some ⟨g, 0, none⟩, cap, rfl, hn, hcap, fun h0 => ⟨g, rfl, hg, (Array.getElem?_eq_some_iff.1 hh).1, fun i hi => ?_⟩⟩
    have h4 : w.cell? ⟨g, 0 + i, none⟩ = cur[i]? := by simp [World.cell?, hh]
    have h5 : (cur.toList.take (n * 1))[i]? = xs[i]? := by rw [htk]
    rw [List.getElem?_take_of_lt (by omega)] at h5
    rw [h4, ← Array.getElem?_toList, h5, List.getElem?_eq_getElem hi]
theorem own_empty {base : Nat} (W : World) (e : TypeId) (size g : Nat) (hg : W.heap.size = g) (hb : base ≤ g) : (W.alloc (.cells #[] e)).ownsRow base e size (.slice (some ⟨g, 0, none⟩) 0 0) 0 [] := by
  subst hg
  exact World.ownsRow_lit W #[] 0 hb (Nat.zero_le _) (by simp)
end
end Go.Proofs.Ytihfenkphhnbcaa
