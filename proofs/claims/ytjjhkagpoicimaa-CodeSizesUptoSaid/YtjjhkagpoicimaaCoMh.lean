/- Plain mathematics of layer 7: the document's laying, as mathematics: it is the node's instructions, or too long. No program is named here. -/
import Derived.Test.YtjjhkagpoicimaaCoMe
namespace Go.Proofs.Ytjjhkagpoicimaa
set_option linter.unusedVariables false

/-- The ways past set. -/
def patchY (v : Int) : List Nat → List Inn → List Inn
  | [], l => l
  | j :: js, l => patchY v js (upd l j fun i => { i with y := v })
theorem patchY_len (v : Int) : ∀ (js : List Nat) (l : List Inn), (patchY v js l).length = l.length
  | [], l => rfl
  | j :: js, l => by rw [patchY, patchY_len v js, upd_len]
theorem patchY_left (v : Int) : ∀ (js : List Nat) (l m : List Inn), (∀ j ∈ js, j < l.length) → patchY v js (l ++ m) = patchY v js l ++ m
  | [], l, m, _ => rfl
  | j :: js, l, m, h => by
    rw [patchY, patchY, upd_left l m j _ (h j (List.mem_cons_self ..)), patchY_left v js _ m (fun j' h' => by rw [upd_len]; exact h j' (List.mem_cons_of_mem _ h'))]
theorem patchY_snoc (v : Int) : ∀ (js : List Nat) (j : Nat) (l : List Inn), patchY v (js ++ [j]) l = upd (patchY v js l) j fun i => { i with y := v }
  | [], j, l => rfl
  | i :: js, j, l => by rw [List.cons_append, patchY, patchY, patchY_snoc v js]
abbrev Lf := List Inn → Nat → List Inn × Nat
/-- A part so many times: no more of it where nothing was laid. -/
def dcop (f : Lf) : Nat → Lf
  | 0, l, k => (l, k)
  | n + 1, l, k => if (f l k).1.length = l.length then f l k else dcop f n (f l k).1 (f l k).2
def dend (f : Lf) (l : List Inn) (k : Nat) : List Inn × Nat :=
  let r := f (l ++ [ins 1 (l.length + 1 : Nat) 0, ins 7 k 0]) (k + 1)
  (upd (r.1 ++ [ins 8 k 0, ins 2 l.length 0]) l.length fun i => { i with y := (r.1.length + 2 : Nat) }, r.2)
def drou (f : Lf) : Nat → List Nat → Lf
  | 0, ss, l, k => (patchY (l.length : Nat) ss l, k)
  | n + 1, ss, l, k => if 3000 < l.length then (patchY (l.length : Nat) ss l, k) else
    let r := f (l ++ [ins 1 (l.length + 1 : Nat) 0, ins 7 k 0]) (k + 1)
    drou f n (ss ++ [l.length]) (r.1 ++ [ins 8 k 0]) r.2
/-- What is asked of a part's laying. -/
structure Lays (f : Lf) (c : Nat → Nat → List Inn) (z q : Nat) : Prop where
  len : ∀ P k, (c P k).length = z
  le : ∀ l k, l.length ≤ (f l k).1.length
  eqv : ∀ l k, Eqv (f l k) (l ++ c l.length k, k + q)
theorem dcop_le {f : Lf} (h : ∀ l k, l.length ≤ (f l k).1.length) : ∀ (n : Nat) (l : List Inn) (k : Nat), l.length ≤ (dcop f n l k).1.length
  | 0, l, k => Nat.le_refl _
  | n + 1, l, k => by
    rw [dcop]
    split
    · exact h l k
    · exact Nat.le_trans (h l k) (dcop_le h n _ _)
theorem drou_le {f : Lf} (h : ∀ l k, l.length ≤ (f l k).1.length) : ∀ (n : Nat) (ss : List Nat) (l : List Inn) (k : Nat), l.length ≤ (drou f n ss l k).1.length
  | 0, ss, l, k => by simp [drou, patchY_len]
  | n + 1, ss, l, k => by
    rw [drou]
    split
    · simp [patchY_len]
    · have h1 := h (l ++ [ins 1 (l.length + 1 : Nat) 0, ins 7 k 0]) (k + 1)
      refine Nat.le_trans ?_ (drou_le h n _ _ _)
      simp at h1 ⊢; omega
theorem dend_le {f : Lf} (h : ∀ l k, l.length ≤ (f l k).1.length) (l : List Inn) (k : Nat) : l.length ≤ (dend f l k).1.length := by
  have h1 := h (l ++ [ins 1 (l.length + 1 : Nat) 0, ins 7 k 0]) (k + 1)
  unfold dend
  simp [upd_len] at h1 ⊢; omega
/-- Copies: a part of which nothing is laid has no loop. -/
theorem dcop_eqv {f : Lf} {c : Nat → Nat → List Inn} {z q : Nat} (h : Lays f c z q) (hz : z = 0 → q = 0) : ∀ (n : Nat) (l : List Inn) (k : Nat), Eqv (dcop f n l k) (l ++ copies c z q n l.length k, k + n * q)
  | 0, l, k => .inl (by simp [dcop, copies])
  | n + 1, l, k => by
    have hc : (copies c z q (n + 1) l.length k).length = (n + 1) * z := copies_len _ _ _ h.len _ _ _
    rw [dcop]
    rcases h.eqv l k with he | ⟨he, he'⟩
    · rw [he]
      simp only [List.length_append, h.len]
      split
      · rename_i hs
        obtain rfl : z = 0 := by omega
        obtain rfl := hz rfl
        have hn : ∀ n P k, copies c 0 0 n P k = [] := fun n P k => List.length_eq_zero_iff.1 (by rw [copies_len _ _ _ h.len]; simp)
        have h0 : c l.length k = [] := List.length_eq_zero_iff.1 (h.len _ _)
        left; rw [hn, h0]; simp
      · have hd := dcop_eqv h hz n (l ++ c l.length k) (k + q)
        rw [copies, Nat.succ_mul]
        simpa [h.len, Nat.add_assoc, Nat.add_comm, Nat.add_left_comm] using hd
    · right
      refine ⟨?_, ?_⟩
      · split
        · exact he
        · exact Nat.lt_of_lt_of_le he (dcop_le h.le n _ _)
      · simp only [List.length_append, h.len, hc, Nat.succ_mul] at he' ⊢
        omega
theorem dend_eqv {f : Lf} {c : Nat → Nat → List Inn} {z q : Nat} (h : Lays f c z q) (l : List Inn) (k : Nat) : Eqv (dend f l k) (l ++ endless c z l.length k, k + (q + 1)) := by
  have hl : (l ++ [ins 1 (l.length + 1 : Nat) 0, ins 7 k 0]).length = l.length + 2 := by simp
  unfold dend
  simp only
  rcases h.eqv (l ++ [ins 1 (l.length + 1 : Nat) 0, ins 7 k 0]) (k + 1) with he | ⟨he, he'⟩
  · left
    rw [he]
    simp only [hl, List.length_append, h.len]
    rw [show l ++ [ins 1 (l.length + 1 : Nat) 0, ins 7 k 0] ++ c (l.length + 2) (k + 1) ++ [ins 8 k 0, ins 2 l.length 0] = l ++ ins 1 (l.length + 1 : Nat) 0 :: (ins 7 k 0 :: (c (l.length + 2) (k + 1) ++ [ins 8 k 0, ins 2 l.length 0])) by simp, upd_mid l _ _ _ _ rfl]
    unfold endless
    simp [ins]
    omega
  · right
    refine ⟨?_, ?_⟩
    · simp only [upd_len, List.length_append]; omega
    · simp only [List.length_append, hl, h.len] at he'
      simp [endless, h.len]; omega
theorem drou_eqv {f : Lf} {c : Nat → Nat → List Inn} {z q : Nat} (h : Lays f c z q) : ∀ (n : Nat) (ss : List Nat) (l : List Inn) (k : Nat), (∀ j ∈ ss, j < l.length) →
    Eqv (drou f n ss l k) (patchY (l.length + n * (z + 3) : Nat) ss l ++ rounds c z q (l.length + n * (z + 3)) n l.length k, k + n * (q + 1))
  | 0, ss, l, k, _ => .inl (by simp [drou, rounds])
  | n + 1, ss, l, k, hj => by
    have hr : ∀ E, (rounds c z q E (n + 1) l.length k).length = (n + 1) * (z + 3) := fun E => rounds_len _ _ _ _ h.len _ _ _
    have hl : (l ++ [ins 1 (l.length + 1 : Nat) 0, ins 7 k 0]).length = l.length + 2 := by simp
    rw [drou]
    split
    · right
      refine ⟨by simp only [patchY_len]; omega, by simp only [List.length_append, patchY_len]; omega⟩
    · simp only
      rcases h.eqv (l ++ [ins 1 (l.length + 1 : Nat) 0, ins 7 k 0]) (k + 1) with he | ⟨he, he'⟩
      · rw [he]
        simp only [hl]
        have hL : (l ++ [ins 1 (l.length + 1 : Nat) 0, ins 7 k 0] ++ c (l.length + 2) (k + 1) ++ [ins 8 k 0]).length = l.length + (z + 3) := by simp only [List.length_append, List.length_cons, List.length_nil, h.len]; omega
        have hd := drou_eqv h n (ss ++ [l.length]) (l ++ [ins 1 (l.length + 1 : Nat) 0, ins 7 k 0] ++ c (l.length + 2) (k + 1) ++ [ins 8 k 0]) (k + 1 + q) (fun j hm => by
          rw [hL]
          rcases List.mem_append.1 hm with hm | hm
          · have := hj j hm; omega
          · obtain rfl : j = l.length := by simpa using hm
            omega)
        rw [hL] at hd
        have hE : l.length + (z + 3) + n * (z + 3) = l.length + (n + 1) * (z + 3) := by rw [Nat.succ_mul]; omega
        rw [hE] at hd
        generalize l.length + (n + 1) * (z + 3) = E at *
        refine hd.trans (.inl ?_)
        rw [patchY_snoc, show l ++ [ins 1 (l.length + 1 : Nat) 0, ins 7 k 0] ++ c (l.length + 2) (k + 1) ++ [ins 8 k 0] = l ++ ins 1 (l.length + 1 : Nat) 0 :: (ins 7 k 0 :: (c (l.length + 2) (k + 1) ++ [ins 8 k 0])) by simp, patchY_left _ ss l _ hj, upd_mid _ _ _ _ _ (by rw [patchY_len]), rounds, Nat.succ_mul]
        rw [show l.length + (z + 3) = l.length + z + 3 by omega, show k + 1 + q = k + q + 1 by omega]
        simp [ins]
        omega
      · right
        refine ⟨?_, ?_⟩
        · refine Nat.lt_of_lt_of_le ?_ (drou_le h.le n _ _ _)
          simp only [List.length_append]; omega
        · simp only [List.length_append, hl, h.len] at he'
          simp only [List.length_append, patchY_len, hr, Nat.succ_mul]
          omega
end Go.Proofs.Ytjjhkagpoicimaa
