/- Plain mathematics of layer 7: branches laid one by one, their jumps set at the end; a part laid again. No program is named here. -/
import Derived.Test.YtjjhkagpoicimaaCoMa
namespace Go.Proofs.Ytjjhkagpoicimaa

/-- One instruction of a row turned. -/
def upd (l : List Inn) (j : Nat) (f : Inn → Inn) : List Inn := l.set j (f (l.getD j (ins 0 0 0)))
/-- Jumps set. -/
def patch (v : Int) : List Nat → List Inn → List Inn
  | [], l => l
  | j :: js, l => patch v js (upd l j fun i => { i with x := v })
theorem upd_len (l : List Inn) (j : Nat) (f : Inn → Inn) : (upd l j f).length = l.length := by simp [upd]
theorem patch_len (v : Int) : ∀ (js : List Nat) (l : List Inn), (patch v js l).length = l.length
  | [], l => rfl
  | j :: js, l => by rw [patch, patch_len v js, upd_len]
theorem upd_left (l m : List Inn) (j : Nat) (f : Inn → Inn) (h : j < l.length) : upd (l ++ m) j f = upd l j f ++ m := by
  unfold upd
  rw [List.set_append_left _ _ h]
  simp [List.getD_eq_getElem?_getD, List.getElem?_append_left h]
theorem upd_mid (l m : List Inn) (i : Inn) (j : Nat) (f : Inn → Inn) (h : j = l.length) : upd (l ++ i :: m) j f = l ++ f i :: m := by
  subst h
  unfold upd
  rw [List.set_append_right _ _ (Nat.le_refl _)]
  simp [List.getD_eq_getElem?_getD]
theorem patch_left (v : Int) : ∀ (js : List Nat) (l m : List Inn), (∀ j ∈ js, j < l.length) → patch v js (l ++ m) = patch v js l ++ m
  | [], l, m, _ => rfl
  | j :: js, l, m, h => by
    rw [patch, patch, upd_left l m j _ (h j (List.mem_cons_self ..)), patch_left v js _ m (fun j' h' => by rw [upd_len]; exact h j' (List.mem_cons_of_mem _ h'))]
theorem patch_snoc (v : Int) : ∀ (js : List Nat) (j : Nat) (l : List Inn), patch v (js ++ [j]) l = upd (patch v js l) j fun i => { i with x := v }
  | [], j, l => rfl
  | i :: js, j, l => by rw [List.cons_append, patch, patch, patch_snoc v js]
/-- The branches that are left, laid: what stood, the loops; js: the jumps of those that are laid. -/
def brs : List Nd → List Nat → List Inn → Nat → List Inn × Nat
  | [], _, l, k => (l, k)
  | d :: ds, js, l, k =>
    if ds.isEmpty then (patch (l.length + csz d : Nat) js (l ++ cd d l.length k), k + clp d)
    else brs ds (js ++ [l.length + 1 + csz d]) (upd (l ++ ins 1 (l.length + 1 : Nat) 0 :: (cd d (l.length + 1) k ++ [ins 2 0 0])) l.length fun i => { i with y := (l.length + csz d + 2 : Nat) }) (k + clp d)
theorem brs_eq : ∀ (ds : List Nd) (js : List Nat) (l : List Inn) (k : Nat), ds ≠ [] → (∀ j ∈ js, j < l.length) →
    brs ds js l k = (patch (l.length + (cszs ds + 2 * (ds.length - 1)) : Nat) js l ++ cda ds l.length k (l.length + (cszs ds + 2 * (ds.length - 1))), k + clps ds)
  | [], _, _, _, h, _ => absurd rfl h
  | d :: ds, js, l, k, _, hj => by
    rw [brs, cda]
    split
    · rename_i h
      obtain rfl : ds = [] := by simpa using h
      rw [patch_left _ js l _ hj]
      simp [cszs, clps]
    · rename_i h
      have h0 : ds ≠ [] := by simpa using h
      have hn : 0 < ds.length := List.length_pos_iff.2 h0
      rw [upd_mid l _ _ _ _ rfl]
      have hlen : (l ++ ins 1 (l.length + 1 : Nat) (l.length + csz d + 2 : Nat) :: (cd d (l.length + 1) k ++ [ins 2 0 0])).length = l.length + csz d + 2 := by simp [cd_len]; omega
      show brs ds _ (l ++ ins 1 (l.length + 1 : Nat) (l.length + csz d + 2 : Nat) :: (cd d (l.length + 1) k ++ [ins 2 0 0])) _ = _
      rw [brs_eq ds _ _ _ h0 (fun j hm => by
        rw [hlen]
        rcases List.mem_append.1 hm with hm | hm
        · have := hj j hm; omega
        · obtain rfl : j = _ := by simpa using hm
          omega), hlen, patch_snoc, patch_left _ js l _ hj]
      have hE : l.length + csz d + 2 + (cszs ds + 2 * (ds.length - 1)) = l.length + (cszs (d :: ds) + 2 * ((d :: ds).length - 1)) := by rw [cszs, List.length_cons]; omega
      rw [hE]
      generalize l.length + (cszs (d :: ds) + 2 * ((d :: ds).length - 1)) = E
      have hp := patch_len (E : Int) js l
      generalize patch (E : Int) js l = L at hp
      rw [show L ++ ins 1 (l.length + 1 : Nat) (l.length + csz d + 2 : Nat) :: (cd d (l.length + 1) k ++ [ins 2 0 0]) = (L ++ ins 1 (l.length + 1 : Nat) (l.length + csz d + 2 : Nat) :: cd d (l.length + 1) k) ++ ins 2 0 0 :: [] by simp,
        upd_mid _ _ _ _ _ (by simp [cd_len, hp]; omega)]
      simp [ins, clps, Nat.add_assoc]
/-- What was laid from a place on, laid again. -/
def again (l : List Inn) (P z k q : Nat) (k1 : Nat) : List Inn × Nat := (l ++ ((l.drop P).take z).map (·.by (l.length - P) (k1 - k)), k1 + q)
theorem again_eq (d : Nd) (l : List Inn) (P k k1 : Nat) (hP : P ≤ l.length) (hk : k ≤ k1) (h : (l.drop P).take (csz d) = cd d P k) : again l P (csz d) k (clp d) k1 = (l ++ cd d l.length k1, k1 + clp d) := by
  unfold again
  rw [h, ← cd_by, show P + (l.length - P) = l.length by omega, show k + (k1 - k) = k1 by omega]
theorem held_app (l m : List Inn) (P z : Nat) (x : List Inn) (h : (l.drop P).take z = x) (hz : P + z ≤ l.length) : ((l ++ m).drop P).take z = x := by
  rw [List.drop_append_of_le_length (by omega), List.take_append_of_le_length (by simp; omega), h]
/-- A part laid again so many times. -/
def agains (P z k q : Nat) : Nat → List Inn → Nat → List Inn × Nat
  | 0, l, k1 => (l, k1)
  | n + 1, l, k1 => agains P z k q n (again l P z k q k1).1 (again l P z k q k1).2
theorem agains_eq (d : Nd) (P k : Nat) : ∀ (n : Nat) (l : List Inn) (k1 : Nat), P + csz d ≤ l.length → k ≤ k1 → (l.drop P).take (csz d) = cd d P k →
    agains P (csz d) k (clp d) n l k1 = (l ++ copies (fun P k => cd d P k) (csz d) (clp d) n l.length k1, k1 + n * clp d)
  | 0, l, k1, _, _, _ => by simp [agains, copies]
  | n + 1, l, k1, hP, hk, h => by
    rw [agains, again_eq d l P k k1 (by omega) hk h]
    rw [agains_eq d P k n _ _ (by simp; omega) (by simp; omega) (held_app l _ P _ _ h hP), copies, Nat.succ_mul]
    simp [cd_len, Nat.add_assoc]
    omega
/-- Rounds laid, the part in each laid again. -/
def agrounds (P z k q E : Nat) : Nat → List Inn → Nat → List Inn × Nat
  | 0, l, k1 => (l, k1)
  | n + 1, l, k1 =>
    let l1 := l ++ [ins 1 (l.length + 1 : Nat) E, ins 7 k1 0]
    let r := again l1 P z k q (k1 + 1)
    agrounds P z k q E n (r.1 ++ [ins 8 k1 0]) r.2
theorem agrounds_eq (d : Nd) (P k E : Nat) : ∀ (n : Nat) (l : List Inn) (k1 : Nat), P + csz d ≤ l.length → k ≤ k1 → (l.drop P).take (csz d) = cd d P k →
    agrounds P (csz d) k (clp d) E n l k1 = (l ++ rounds (fun P k => cd d P k) (csz d) (clp d) E n l.length k1, k1 + n * (clp d + 1))
  | 0, l, k1, _, _, _ => by simp [agrounds, rounds]
  | n + 1, l, k1, hP, hk, h => by
    rw [agrounds]
    rw [again_eq d _ P k (k1 + 1) (by simp; omega) (by omega) (held_app l _ P _ _ h hP)]
    simp only
    rw [agrounds_eq d P k E n _ _ (by simp; omega) (by omega) (by
      refine held_app _ _ P _ _ (held_app _ _ P _ _ (held_app l _ P _ _ h hP) (by simp; omega)) (by simp; omega)), rounds, Nat.succ_mul]
    simp [cd_len, Nat.add_assoc]
    refine ⟨?_, by omega⟩
    rw [show k1 + (1 + clp d) = k1 + (clp d + 1) by omega]
end Go.Proofs.Ytjjhkagpoicimaa
