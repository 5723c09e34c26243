/- Plain mathematics of layer 7: what fits where, and how long and how great it may become. No program is named here. -/
import Derived.Test.YtjjhkagpoicimaaCoMe
namespace Go.Proofs.Ytjjhkagpoicimaa
set_option linter.unusedVariables false

/-- Longer, with no more new loops than new instructions. -/
def Grw (n k n' k' : Nat) : Prop := n ≤ n' ∧ k ≤ k' ∧ k' + n ≤ k + n'
theorem Grw.refl (n k : Nat) : Grw n k n k := ⟨Nat.le_refl _, Nat.le_refl _, Nat.le_refl _⟩
theorem Grw.trans {n k n' k' n2 k2 : Nat} (h : Grw n k n' k') (g : Grw n' k' n2 k2) : Grw n k n2 k2 := by
  obtain ⟨h1, h2, h3⟩ := h
  obtain ⟨g1, g2, g3⟩ := g
  exact ⟨by omega, by omega, by omega⟩
/-- May a task be done, where so many instructions and loops stand? -/
def Fit (n k : Nat) : CTk → Prop
  | .lay d => cok d = true
  | .save m => 1 ≤ m ∧ m ≤ 1000000
  | .turn ds => coks ds = true
  | .branch s ds js => coks ds = true ∧ ds ≠ [] ∧ s < n ∧ js.length ≤ s ∧ ∀ j ∈ js, j < n
  | .jumps js => ∀ j ∈ js, j < n
  | .rep mn mx P q => okRep mn mx = true ∧ mx ≠ 0 ∧ P ≤ n ∧ q ≤ k ∧ k + P ≤ q + n ∧ (mn = 0 → 2 ≤ P ∧ 1 ≤ q)
theorem Fit.up {n k n' k' : Nat} {t : CTk} (h : Fit n k t) (g : Grw n k n' k') : Fit n' k' t := by
  obtain ⟨g1, g2, g3⟩ := g
  cases t with
  | lay d => exact h
  | save m => exact h
  | turn ds => exact h
  | branch s ds js => exact ⟨h.1, h.2.1, by have := h.2.2.1; omega, h.2.2.2.1, fun j hj => by have := h.2.2.2.2 j hj; omega⟩
  | jumps js => exact fun j hj => by have := h j hj; omega
  | rep mn mx P q =>
    obtain ⟨h1, h2, h3, h4, h5, h6⟩ := h
    exact ⟨h1, h2, by omega, by omega, by omega, h6⟩
theorem okrep_parts {mn mx : Int} (h : okRep mn mx = true) : 0 ≤ mn ∧ mn ≤ 255 ∧ (mx = -1 ∨ (mn ≤ mx ∧ mx ≤ 255)) := by
  unfold okRep at h
  simp only [Bool.and_eq_true, Bool.or_eq_true, decide_eq_true_eq] at h
  exact ⟨h.1.1, h.1.2, h.2⟩
theorem again_grw (l : List Inn) (P z k q k1 : Nat) (h1 : P + z ≤ l.length) (h2 : q ≤ z) : Grw l.length k1 (again l P z k q k1).1.length (again l P z k q k1).2 ∧ (again l P z k q k1).1.length = l.length + z := by
  have h3 : (again l P z k q k1).1.length = l.length + z := by simp [again]; omega
  refine ⟨⟨by omega, by simp [again], ?_⟩, h3⟩
  rw [h3]; simp [again]; omega
theorem againT_grw (l : List Inn) (P z k q k1 : Nat) (h1 : P + z ≤ l.length) (h2 : q ≤ z) : Grw l.length k1 (againT l P z k q k1).1.length (againT l P z k q k1).2 ∧ (againT l P z k q k1).1.length ≤ max l.length (3000 + z) := by
  unfold againT
  split
  · exact ⟨.refl _ _, by simp only; omega⟩
  · obtain ⟨h3, h4⟩ := again_grw l P z k q k1 h1 h2
    exact ⟨h3, by omega⟩
theorem againsT_grw (P z k q : Nat) (h2 : q ≤ z) : ∀ (n : Nat) (l : List Inn) (k1 : Nat), P + z ≤ l.length →
    Grw l.length k1 (againsT P z k q n l k1).1.length (againsT P z k q n l k1).2 ∧ (againsT P z k q n l k1).1.length ≤ max l.length (3000 + z)
  | 0, l, k1, _ => ⟨.refl _ _, by simp only [againsT]; omega⟩
  | n + 1, l, k1, h1 => by
    obtain ⟨a1, a2⟩ := againT_grw l P z k q k1 h1 h2
    obtain ⟨b1, b2⟩ := againsT_grw P z k q h2 n (againT l P z k q k1).1 (againT l P z k q k1).2 (by have := a1.1; omega)
    exact ⟨a1.trans b1, by rw [againsT]; omega⟩
theorem agroundsT_grw (P z k q E : Nat) (h2 : q ≤ z) : ∀ (n : Nat) (l : List Inn) (k1 : Nat), P + z ≤ l.length →
    Grw l.length k1 (agroundsT P z k q E n l k1).1.length (agroundsT P z k q E n l k1).2 ∧ (agroundsT P z k q E n l k1).1.length ≤ max l.length (3000 + z) + 3 * n
  | 0, l, k1, _ => ⟨.refl _ _, by simp only [agroundsT]; omega⟩
  | n + 1, l, k1, h1 => by
    rw [agroundsT]
    have hl : (l ++ [ins 1 (l.length + 1 : Nat) E, ins 7 k1 0]).length = l.length + 2 := by simp
    obtain ⟨a1, a2⟩ := againT_grw (l ++ [ins 1 (l.length + 1 : Nat) E, ins 7 k1 0]) P z k q (k1 + 1) (by omega) h2
    generalize againT (l ++ [ins 1 (l.length + 1 : Nat) E, ins 7 k1 0]) P z k q (k1 + 1) = r at *
    have hr : (r.1 ++ [ins 8 k1 0]).length = r.1.length + 1 := by simp
    obtain ⟨a3, a4, a5⟩ := a1
    obtain ⟨b1, b2⟩ := agroundsT_grw P z k q E h2 n (r.1 ++ [ins 8 k1 0]) r.2 (by omega)
    exact ⟨Grw.trans ⟨by omega, by omega, by omega⟩ b1, by omega⟩
theorem rept_grw (mn mx : Int) (P z k q : Nat) (l : List Inn) (k1 : Nat) (ho : okRep mn mx = true) (h1 : P + z ≤ l.length) (h2 : q ≤ z) (hl : l.length ≤ 3000) :
    Grw l.length k1 (repT mn mx P z k q l k1).1.length (repT mn mx P z k q l k1).2 ∧ (repT mn mx P z k q l k1).1.length ≤ 7000 := by
  obtain ⟨o1, o2, o3⟩ := okrep_parts ho
  have hR : (if mx = -1 then 1 else (mx - mn).toNat) ≤ 255 := by split <;> omega
  have hJ : (if mx = -1 then 1 else 0) ≤ 1 := by split <;> omega
  unfold repT
  generalize (if mx = -1 then 1 else (mx - mn).toNat) = R at *
  generalize (if mx = -1 then 1 else 0) = J at *
  by_cases h : mn = 0
  · rw [if_pos h]
    simp only [List.length_append, List.length_replicate]
    generalize hL : (upd l (P - 2) (fun i => { i with y := ((P - 2 + R * (z + 3) + J : Nat) : Int) }) ++ [ins 8 (k - 1 : Nat) 0]) = L
    have hLl : L.length = l.length + 1 := by rw [← hL]; simp [upd_len]
    obtain ⟨a1, a2⟩ := agroundsT_grw P z k q (P - 2 + R * (z + 3) + J) h2 (R - 1) L k1 (by omega)
    obtain ⟨a3, a4, a5⟩ := a1
    exact ⟨⟨by omega, by omega, by omega⟩, by omega⟩
  · rw [if_neg h]
    simp only [List.length_append, List.length_replicate]
    obtain ⟨a1, a2⟩ := againsT_grw P z k q h2 (mn.toNat - 1) l k1 h1
    generalize againsT P z k q (mn.toNat - 1) l k1 = r at *
    obtain ⟨b1, b2⟩ := agroundsT_grw P z k q (P + mn.toNat * z + R * (z + 3) + J) h2 R r.1 r.2 (by have := a1.1; omega)
    obtain ⟨c1, c2, c3⟩ := a1.trans b1
    exact ⟨⟨by omega, by omega, by omega⟩, by omega⟩
theorem coturn_fit (ds : List Nd) (n k : Nat) (h : coks ds = true) : ∀ t ∈ coTurn ds, Fit n k t := by
  cases ds with
  | nil => intro t ht; simp [coTurn] at ht
  | cons d ds =>
    rw [coks, Bool.and_eq_true] at h
    intro t ht
    simp only [coTurn, List.mem_cons, List.not_mem_nil, or_false] at ht
    rcases ht with rfl | rfl
    · exact h.1
    · exact h.2
theorem brst_fit (ds : List Nd) (js : List Nat) (l : List Inn) (k : Nat) (h : coks ds = true) (hn : js.length ≤ l.length) (hj : ∀ j ∈ js, j < l.length) :
    Grw l.length k (brSt ds js l).1.length k ∧ (brSt ds js l).1.length ≤ l.length + 1 ∧ ∀ t ∈ (brSt ds js l).2, Fit (brSt ds js l).1.length k t := by
  cases ds with
  | nil => exact ⟨.refl _ _, by simp [brSt], fun t ht => by simp [brSt] at ht⟩
  | cons d ds =>
    rw [coks, Bool.and_eq_true] at h
    rw [brSt]
    split
    · refine ⟨.refl _ _, by simp, fun t ht => ?_⟩
      simp only [List.mem_cons, List.not_mem_nil, or_false] at ht
      rcases ht with rfl | rfl
      · exact h.1
      · exact hj
    · rename_i he
      have hl : (l ++ [ins 1 (l.length + 1 : Nat) 0]).length = l.length + 1 := by simp
      refine ⟨⟨by simp only; omega, Nat.le_refl _, by simp only; omega⟩, by simp only; omega, fun t ht => ?_⟩
      simp only [List.mem_cons, List.not_mem_nil, or_false] at ht
      rcases ht with rfl | rfl
      · exact h.1
      · exact ⟨h.2, by simpa using he, by simp only; omega, hn, fun j hm => by have := hj j hm; simp only; omega⟩
/-- A step leaves what fits, and not too much. -/
theorem stp_fit (t : CTk) (l : List Inn) (k : Nat) (h : Fit l.length k t) (hl : l.length ≤ 3000) :
    Grw l.length k (stp t l k).1.1.length (stp t l k).1.2 ∧ (stp t l k).1.1.length ≤ 7000 ∧ ∀ u ∈ (stp t l k).2, Fit (stp t l k).1.1.length (stp t l k).1.2 u := by
  cases t with
  | save m => refine ⟨⟨?_, ?_, ?_⟩, ?_, ?_⟩ <;> simp [stp]; omega
  | turn ds => exact ⟨.refl _ _, by simp only [stp]; omega, coturn_fit ds _ _ h⟩
  | branch s ds js =>
    obtain ⟨h1, h2, h3, h5, h4⟩ := h
    have hL : (upd (l ++ [ins 2 0 0]) s fun i => { i with y := (l.length + 1 : Nat) }).length = l.length + 1 := by simp [upd_len]
    obtain ⟨a1, a2, a3⟩ := brst_fit ds (js ++ [l.length]) (upd (l ++ [ins 2 0 0]) s fun i => { i with y := (l.length + 1 : Nat) }) k h1 (by rw [hL]; simp; omega) (fun j hm => by
      rcases List.mem_append.1 hm with hm | hm
      · have := h4 j hm; omega
      · obtain rfl : j = l.length := by simpa using hm
        omega)
    rw [hL] at a1 a2
    exact ⟨Grw.trans ⟨by omega, Nat.le_refl _, by omega⟩ a1, by simp only [stp]; omega, a3⟩
  | jumps js => refine ⟨⟨?_, ?_, ?_⟩, ?_, ?_⟩ <;> simp [stp, patch_len]; omega
  | rep mn mx P q =>
    obtain ⟨h1, h2, h3, h4, h5, h6⟩ := h
    obtain ⟨a1, a2⟩ := rept_grw mn mx P (l.length - P) q (k - q) l k h1 (by omega) (by omega) hl
    exact ⟨a1, a2, fun u hu => by simp [stp] at hu⟩
  | lay d =>
    cases d with
    | empty => refine ⟨⟨?_, ?_, ?_⟩, ?_, ?_⟩ <;> simp [stp]; omega
    | one s => refine ⟨⟨?_, ?_, ?_⟩, ?_, ?_⟩ <;> simp [stp]; omega
    | back n => refine ⟨⟨?_, ?_, ?_⟩, ?_, ?_⟩ <;> simp [stp]; omega
    | start => refine ⟨⟨?_, ?_, ?_⟩, ?_, ?_⟩ <;> simp [stp]; omega
    | fin => refine ⟨⟨?_, ?_, ?_⟩, ?_, ?_⟩ <;> simp [stp]; omega
    | cat ds =>
      have h : coks ds = true := by have h : cok (.cat ds) = true := h; rwa [cok] at h
      exact ⟨.refl _ _, by simp only [stp]; omega, coturn_fit ds _ _ h⟩
    | alt ds =>
      have h : cok (.alt ds) = true := h
      rw [cok, Bool.and_eq_true] at h
      obtain ⟨a1, a2, a3⟩ := brst_fit ds [] l k h.2 (by simp) (by simp)
      exact ⟨a1, by simp only [stp]; omega, a3⟩
    | group n d =>
      have h : cok (.group n d) = true := h
      simp only [cok, Bool.and_eq_true, decide_eq_true_eq] at h
      refine ⟨⟨?_, ?_, ?_⟩, ?_, ?_⟩
      any_goals (simp [stp]; done)
      · simp [stp]; omega
      · intro u hu
        simp only [stp, List.mem_cons, List.not_mem_nil, or_false] at hu
        rcases hu with rfl | rfl
        · exact h.2
        · exact h.1
    | rep d mn mx =>
      have h : cok (.rep d mn mx) = true := h
      rw [cok, Bool.and_eq_true, Bool.and_eq_true] at h
      rw [stp]
      split
      · exact ⟨.refl _ _, by simp only; omega, fun u hu => by simp at hu⟩
      · rename_i h0
        split
        · rename_i h3
          have hL : (l ++ [ins 1 (l.length + 1 : Nat) 0, ins 7 k 0]).length = l.length + 2 := by simp
          refine ⟨⟨by simp only; omega, by simp only; omega, by simp only; omega⟩, by simp only; omega, fun u hu => ?_⟩
          simp only [List.mem_cons, List.not_mem_nil, or_false] at hu
          rcases hu with rfl | rfl
          · exact h.2.2
          · exact ⟨h.1, h0, by simp only; omega, by simp only; omega, by simp only; omega, fun _ => ⟨by omega, by omega⟩⟩
        · rename_i h3
          refine ⟨.refl _ _, by simp only; omega, fun u hu => ?_⟩
          simp only [List.mem_cons, List.not_mem_nil, or_false] at hu
          rcases hu with rfl | rfl
          · exact h.2.2
          · exact ⟨h.1, h0, by simp only; omega, by simp only; omega, by simp only; omega, fun h4 => absurd h4 h3⟩
end Go.Proofs.Ytjjhkagpoicimaa
