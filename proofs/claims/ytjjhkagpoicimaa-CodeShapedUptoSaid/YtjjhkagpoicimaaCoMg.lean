/- Plain mathematics of layer 7: how great an instruction's numbers may become. No program is named here. -/
import Derived.Test.YtjjhkagpoicimaaCoMf
namespace Go.Proofs.Ytjjhkagpoicimaa
set_option linter.unusedVariables false

/-- An instruction at a place: its numbers are small. -/
def Bi (p : Nat) (i : Inn) : Prop := 0 ≤ i.op ∧ i.op ≤ 9 ∧ 0 ≤ i.x ∧ i.x ≤ 3000000 + p ∧ 0 ≤ i.y ∧ i.y ≤ 3000000 + p
def Bd (l : List Inn) : Prop := ∀ p i, l[p]? = some i → Bi p i
theorem bd_app {l m : List Inn} (h : Bd l) (k : ∀ p i, m[p]? = some i → Bi (l.length + p) i) : Bd (l ++ m) := by
  intro p i hp
  by_cases hl : p < l.length
  · rw [List.getElem?_append_left hl] at hp; exact h p i hp
  · rw [List.getElem?_append_right (by omega)] at hp
    have := k _ i hp
    rwa [show l.length + (p - l.length) = p by omega] at this
theorem bd_one {l : List Inn} {i : Inn} (h : Bd l) (k : Bi l.length i) : Bd (l ++ [i]) := bd_app h fun p j hp => by
  cases p with
  | zero => simp at hp; subst hp; exact k
  | succ p => simp at hp
theorem bd_rep {l : List Inn} {i : Inn} (h : Bd l) (n : Nat) (k : ∀ p, Bi p i) : Bd (l ++ List.replicate n i) := bd_app h fun p j hp => by
  rw [List.getElem?_replicate] at hp
  split at hp
  · injection hp with hp; subst hp; exact k _
  · cases hp
theorem bd_upd {l : List Inn} (h : Bd l) (j : Nat) (f : Inn → Inn) (k : ∀ i, Bi j i → Bi j (f i)) : Bd (upd l j f) := by
  intro p i hp
  unfold upd at hp
  rw [List.getElem?_set] at hp
  split at hp
  · rename_i hj
    subst hj
    split at hp
    · rename_i hl
      injection hp with hp
      subst hp
      refine k _ ?_
      rw [List.getD_eq_getElem?_getD, List.getElem?_eq_getElem hl]
      exact h _ _ (List.getElem?_eq_getElem hl)
    · cases hp
  · exact h p i hp
theorem bd_patch (v : Nat) (hv : v ≤ 3000000) : ∀ (js : List Nat) {l : List Inn}, Bd l → Bd (patch (v : Nat) js l)
  | [], l, h => h
  | j :: js, l, h => bd_patch v hv js (bd_upd h j _ fun i ⟨h1, h2, h3, h4, h5, h6⟩ => ⟨h1, h2, by simp only; omega, by simp only; omega, h5, h6⟩)
theorem bi_by {p b q : Nat} {i : Inn} (h : Bi p i) (hq : q ≤ b) : Bi (p + b) (i.by b q) := by
  obtain ⟨h1, h2, h3, h4, h5, h6⟩ := h
  unfold Inn.by
  split
  · exact ⟨h1, h2, by simp only; omega, by simp only; omega, by simp only; omega, by simp only; omega⟩
  · split
    · exact ⟨h1, h2, by simp only; omega, by simp only; omega, h5, by simp only; omega⟩
    · split
      · exact ⟨h1, h2, by simp only; omega, by simp only; omega, h5, by simp only; omega⟩
      · exact ⟨h1, h2, h3, by omega, h5, by omega⟩
theorem bd_again {l : List Inn} (P z k q k1 : Nat) (h : Bd l) (hP : P ≤ l.length) (hk : k1 + P ≤ k + l.length) : Bd (again l P z k q k1).1 := by
  unfold again
  refine bd_app h fun p i hp => ?_
  rw [List.getElem?_map, Option.map_eq_some_iff] at hp
  obtain ⟨j, hj, rfl⟩ := hp
  rw [List.getElem?_take] at hj
  split at hj
  · rw [List.getElem?_drop] at hj
    have := bi_by (b := l.length - P) (q := k1 - k) (h _ _ hj) (by omega)
    rwa [show P + p + (l.length - P) = l.length + p by omega] at this
  · cases hj
theorem bd_againT {l : List Inn} (P z k q k1 : Nat) (h : Bd l) (hP : P ≤ l.length) (hk : k1 + P ≤ k + l.length) : Bd (againT l P z k q k1).1 := by
  unfold againT
  split
  · exact h
  · exact bd_again P z k q k1 h hP hk
theorem bd_againsT (P z k q : Nat) (h2 : q ≤ z) : ∀ (n : Nat) (l : List Inn) (k1 : Nat), Bd l → P + z ≤ l.length → k1 + P ≤ k + l.length → Bd (againsT P z k q n l k1).1
  | 0, l, k1, h, _, _ => h
  | n + 1, l, k1, h, h1, hk => by
    obtain ⟨⟨a1, a2, a3⟩, _⟩ := againT_grw l P z k q k1 h1 h2
    exact bd_againsT P z k q h2 n _ _ (bd_againT P z k q k1 h (by omega) hk) (by omega) (by omega)
theorem bd_agroundsT (P z k q E : Nat) (h2 : q ≤ z) (hE : E ≤ 3000000) (hk0 : k ≤ 3000000) : ∀ (n : Nat) (l : List Inn) (k1 : Nat), Bd l → P + z ≤ l.length → k1 + P ≤ k + l.length → Bd (agroundsT P z k q E n l k1).1
  | 0, l, k1, h, _, _ => h
  | n + 1, l, k1, h, h1, hk => by
    rw [agroundsT]
    have hl : (l ++ [ins 1 (l.length + 1 : Nat) E, ins 7 k1 0]).length = l.length + 2 := by simp
    obtain ⟨⟨a1, a2, a3⟩, _⟩ := againT_grw (l ++ [ins 1 (l.length + 1 : Nat) E, ins 7 k1 0]) P z k q (k1 + 1) (by omega) h2
    have hb : Bd (l ++ [ins 1 (l.length + 1 : Nat) E, ins 7 k1 0]) := by
      have := bd_one (bd_one h (i := ins 1 (l.length + 1 : Nat) E) ⟨by simp only [ins]; omega, by simp only [ins]; omega, by simp only [ins]; omega, by simp only [ins]; omega, by simp only [ins]; omega, by simp only [ins]; omega⟩) (i := ins 7 k1 0)
        ⟨by simp only [ins]; omega, by simp only [ins]; omega, by simp only [ins]; omega, by simp only [ins, List.length_append, List.length_cons, List.length_nil]; omega, by simp only [ins]; omega, by simp only [ins]; omega⟩
      simpa using this
    have hr := bd_againT P z k q (k1 + 1) hb (by omega) (by omega)
    generalize againT (l ++ [ins 1 (l.length + 1 : Nat) E, ins 7 k1 0]) P z k q (k1 + 1) = r at *
    have hrl : (r.1 ++ [ins 8 k1 0]).length = r.1.length + 1 := by simp
    exact bd_agroundsT P z k q E h2 hE hk0 n _ _ (bd_one hr ⟨by simp only [ins]; omega, by simp only [ins]; omega, by simp only [ins]; omega, by simp only [ins]; omega, by simp only [ins]; omega, by simp only [ins]; omega⟩) (by omega) (by omega)
theorem bd_rept (mn mx : Int) (P z k q : Nat) (l : List Inn) (k1 : Nat) (ho : okRep mn mx = true) (h1 : P + z ≤ l.length) (h2 : q ≤ z) (hl : l.length ≤ 3000) (hk0 : k ≤ 3000) (hk : k1 + P ≤ k + l.length) (h : Bd l) : Bd (repT mn mx P z k q l k1).1 := by
  obtain ⟨o1, o2, o3⟩ := okrep_parts ho
  have hR : (if mx = -1 then 1 else (mx - mn).toNat) ≤ 255 := by split <;> omega
  have hJ : (if mx = -1 then 1 else 0) ≤ 1 := by split <;> omega
  unfold repT
  generalize (if mx = -1 then 1 else (mx - mn).toNat) = R at *
  generalize (if mx = -1 then 1 else 0) = J at *
  have hm : R * (z + 3) ≤ 255 * 3003 := Nat.mul_le_mul hR (by omega)
  have hm2 : mn.toNat * z ≤ 255 * 3000 := Nat.mul_le_mul (by omega) (by omega)
  by_cases h0 : mn = 0
  · rw [if_pos h0]
    simp only
    generalize hE : P - 2 + R * (z + 3) + J = E
    have hu : Bd (upd l (P - 2) (fun i => { i with y := (E : Int) }) ++ [ins 8 (k - 1 : Nat) 0]) :=
      bd_one (bd_upd h _ _ fun i ⟨b1, b2, b3, b4, b5, b6⟩ => ⟨b1, b2, b3, b4, by simp only; omega, by simp only; omega⟩) ⟨by simp only [ins]; omega, by simp only [ins]; omega, by simp only [ins]; omega, by simp only [ins]; omega, by simp only [ins]; omega, by simp only [ins]; omega⟩
    have hul : (upd l (P - 2) (fun i => { i with y := (E : Int) }) ++ [ins 8 (k - 1 : Nat) 0]).length = l.length + 1 := by simp [upd_len]
    exact bd_rep (bd_agroundsT P z k q E h2 (by omega) (by omega) (R - 1) _ k1 hu (by omega) (by omega)) J fun p => ⟨by simp only [ins]; omega, by simp only [ins]; omega, by simp only [ins]; omega, by simp only [ins]; omega, by simp only [ins]; omega, by simp only [ins]; omega⟩
  · rw [if_neg h0]
    simp only
    obtain ⟨⟨a1, a2, a3⟩, _⟩ := againsT_grw P z k q h2 (mn.toNat - 1) l k1 h1
    have hb := bd_againsT P z k q h2 (mn.toNat - 1) l k1 h h1 hk
    exact bd_rep (bd_agroundsT P z k q _ h2 (by omega) (by omega) R _ _ hb (by omega) (by omega)) J fun p => ⟨by simp only [ins]; omega, by simp only [ins]; omega, by simp only [ins]; omega, by simp only [ins]; omega, by simp only [ins]; omega, by simp only [ins]; omega⟩
theorem bd_brst (ds : List Nd) (js : List Nat) (l : List Inn) (h : Bd l) : Bd (brSt ds js l).1 := by
  cases ds with
  | nil => exact h
  | cons d ds =>
    rw [brSt]
    split
    · exact h
    · exact bd_one h ⟨by simp only [ins]; omega, by simp only [ins]; omega, by simp only [ins]; omega, by simp only [ins]; omega, by simp only [ins]; omega, by simp only [ins]; omega⟩
/-- A step keeps the numbers small. -/
theorem stp_bd (t : CTk) (l : List Inn) (k : Nat) (hf : Fit l.length k t) (hl : l.length ≤ 3000) (hk : k ≤ l.length) (h : Bd l) : Bd (stp t l k).1.1 := by
  cases t with
  | save m => obtain ⟨f1, f2⟩ := hf; exact bd_one h ⟨by simp only [ins]; omega, by simp only [ins]; omega, by simp only [ins]; omega, by simp only [ins]; omega, by simp only [ins]; omega, by simp only [ins]; omega⟩
  | turn ds => exact h
  | branch s ds js =>
    refine bd_brst ds _ _ (bd_upd (bd_one h ⟨by simp only [ins]; omega, by simp only [ins]; omega, by simp only [ins]; omega, by simp only [ins]; omega, by simp only [ins]; omega, by simp only [ins]; omega⟩) s _ fun i ⟨b1, b2, b3, b4, b5, b6⟩ => ⟨b1, b2, b3, b4, by simp only; omega, by simp only; omega⟩)
  | jumps js => exact bd_patch _ (by omega) js h
  | rep mn mx P q =>
    obtain ⟨h1, h2, h3, h4, h5, h6⟩ := hf
    exact bd_rept mn mx P (l.length - P) q (k - q) l k h1 (by omega) (by omega) hl (by omega) (by omega) h
  | lay d =>
    cases d with
    | empty => exact h
    | one s => exact bd_one h ⟨by simp only; omega, by simp only; omega, by simp only; omega, by simp only; omega, by simp only; omega, by simp only; omega⟩
    | back n =>
      have hf : cok (.back n) = true := hf
      simp only [cok, Bool.and_eq_true, decide_eq_true_eq] at hf
      exact bd_one h ⟨by simp only [ins]; omega, by simp only [ins]; omega, by simp only [ins]; omega, by simp only [ins]; omega, by simp only [ins]; omega, by simp only [ins]; omega⟩
    | start => exact bd_one h ⟨by simp only [ins]; omega, by simp only [ins]; omega, by simp only [ins]; omega, by simp only [ins]; omega, by simp only [ins]; omega, by simp only [ins]; omega⟩
    | fin => exact bd_one h ⟨by simp only [ins]; omega, by simp only [ins]; omega, by simp only [ins]; omega, by simp only [ins]; omega, by simp only [ins]; omega, by simp only [ins]; omega⟩
    | cat ds => exact h
    | alt ds => exact bd_brst ds [] l h
    | group n d =>
      have hf : cok (.group n d) = true := hf
      simp only [cok, Bool.and_eq_true, decide_eq_true_eq] at hf
      exact bd_one h ⟨by simp only [ins]; omega, by simp only [ins]; omega, by simp only [ins]; omega, by simp only [ins]; omega, by simp only [ins]; omega, by simp only [ins]; omega⟩
    | rep d mn mx =>
      rw [stp]
      split
      · exact h
      · split
        · have ha : Bd (l ++ [ins 1 (l.length + 1 : Nat) 0]) := bd_one h ⟨by simp only [ins]; omega, by simp only [ins]; omega, by simp only [ins]; omega, by simp only [ins]; omega, by simp only [ins]; omega, by simp only [ins]; omega⟩
          have hb := bd_one ha (i := ins 7 k 0) ⟨by simp only [ins]; omega, by simp only [ins]; omega, by simp only [ins]; omega, by simp only [ins, List.length_append, List.length_cons, List.length_nil]; omega, by simp only [ins]; omega, by simp only [ins]; omega⟩
          simpa using hb
        · exact h
end Go.Proofs.Ytjjhkagpoicimaa
