/- Plain mathematics of layer 7: the shape of a program (CodeShaped). No program is named here. -/
import Derived.Test.YtjjhkagpoicimaaCoMj
namespace Go.Proofs.Ytjjhkagpoicimaa
set_option linter.unusedVariables false

/-- Where Enters are numbered as they come, and each Round's loop was entered: how many were entered at the end. -/
def enW : List Inn → Nat → Option Nat
  | [], m => some m
  | i :: l, m => if i.op = 7 then (if i.x = (m : Int) then enW l (m + 1) else none) else if i.op = 8 then (if 0 ≤ i.x ∧ i.x < (m : Int) then enW l m else none) else enW l m
theorem en_app : ∀ (a b : List Inn) (m n : Nat), enW a m = some n → enW (a ++ b) m = enW b n
  | [], b, m, n, h => by simp only [enW] at h; injection h with h; subst h; rfl
  | i :: a, b, m, n, h => by
    rw [List.cons_append]
    rw [enW] at h ⊢
    split
    · rename_i h1
      rw [if_pos h1] at h
      split
      · rename_i h2
        rw [if_pos h2] at h
        exact en_app a b _ n h
      · rename_i h2
        rw [if_neg h2] at h; cases h
    · rename_i h1
      rw [if_neg h1] at h
      split
      · rename_i h2
        rw [if_pos h2] at h
        split
        · rename_i h3
          rw [if_pos h3] at h
          exact en_app a b _ n h
        · rename_i h3
          rw [if_neg h3] at h; cases h
      · rename_i h2
        rw [if_neg h2] at h
        exact en_app a b _ n h
theorem en_skip (i : Inn) (l : List Inn) (m : Nat) (h7 : i.op ≠ 7) (h8 : i.op ≠ 8) : enW (i :: l) m = enW l m := by
  rw [enW, if_neg h7, if_neg h8]
theorem en_enter (l : List Inn) (m : Nat) : enW (ins 7 m 0 :: l) m = enW l (m + 1) := by
  rw [enW, if_pos (show (ins 7 (m : Int) 0).op = 7 from rfl), if_pos (show (ins 7 (m : Int) 0).x = (m : Int) from rfl)]
theorem en_round (l : List Inn) (k m : Nat) (h : k < m) : enW (ins 8 k 0 :: l) m = enW l m := by
  rw [enW, if_neg (by simp [ins]), if_pos (show (ins 8 (k : Int) 0).op = 8 from rfl), if_pos (by simp only [ins]; omega)]
theorem en_copies (f : Nat → Nat → List Inn) (z q : Nat) (h : ∀ P k, enW (f P k) k = some (k + q)) : ∀ n P k, enW (copies f z q n P k) k = some (k + n * q)
  | 0, P, k => by simp [copies, enW]
  | n + 1, P, k => by rw [copies, en_app _ _ _ _ (h P k), en_copies f z q h n, Nat.succ_mul]; congr 1; omega
theorem en_rounds (f : Nat → Nat → List Inn) (z q E : Nat) (h : ∀ P k, enW (f P k) k = some (k + q)) : ∀ n P k, enW (rounds f z q E n P k) k = some (k + n * (q + 1))
  | 0, P, k => by simp [rounds, enW]
  | n + 1, P, k => by
    rw [rounds, en_skip _ _ _ (by simp [ins]) (by simp [ins]), en_enter, en_app _ _ _ _ (h (P + 2) (k + 1)), en_round _ _ _ (by omega), show k + 1 + q = k + q + 1 by omega, en_rounds f z q E h n, Nat.succ_mul]
    congr 1; omega
mutual
theorem en_cd : ∀ (d : Nd) (P k : Nat), enW (cd d P k) k = some (k + clp d)
  | .empty, P, k => by simp [cd, clp, enW]
  | .one s, P, k => by simp [cd, clp, enW]
  | .cat l, P, k => by rw [cd, clp]; exact en_cds l P k
  | .alt l, P, k => by rw [cd, clp]; exact en_cda l P k _
  | .rep d mn mx, P, k => by
    have hf : ∀ P k, enW ((fun P k => cd d P k) P k) k = some (k + clp d) := fun P k => en_cd d P k
    rw [cd, clp, en_app _ _ _ _ (en_copies _ _ _ hf _ _ _)]
    split
    · unfold endless
      rw [en_skip _ _ _ (by simp [ins]) (by simp [ins]), en_enter, en_app _ _ _ _ (hf _ _), en_round _ _ _ (by omega), en_skip _ _ _ (by simp [ins]) (by simp [ins]), enW]
      congr 1; omega
    · rw [en_rounds _ _ _ _ hf]; congr 1; omega
  | .group n d, P, k => by
    rw [cd, clp, en_skip _ _ _ (by simp [ins]) (by simp [ins]), en_app _ _ _ _ (en_cd d (P + 1) k), en_skip _ _ _ (by simp [ins]) (by simp [ins]), enW]
  | .back n, P, k => by simp [cd, clp, enW, ins]
  | .start, P, k => by simp [cd, clp, enW, ins]
  | .fin, P, k => by simp [cd, clp, enW, ins]
theorem en_cds : ∀ (l : List Nd) (P k : Nat), enW (cds l P k) k = some (k + clps l)
  | [], P, k => by simp [cds, clps, enW]
  | d :: ds, P, k => by rw [cds, clps, en_app _ _ _ _ (en_cd d P k), en_cds ds]; congr 1; omega
theorem en_cda : ∀ (l : List Nd) (P k E : Nat), enW (cda l P k E) k = some (k + clps l)
  | [], P, k, E => by simp [cda, clps, enW]
  | d :: ds, P, k, E => by
    rw [cda, clps]
    split
    · rename_i h
      obtain rfl : ds = [] := by simpa using h
      rw [en_cd d]; simp [clps]
    · rw [en_skip _ _ _ (by simp [ins]) (by simp [ins]), en_app _ _ _ _ (en_cd d (P + 1) k), en_skip _ _ _ (by simp [ins]) (by simp [ins]), en_cda ds]; congr 1; omega
end
/-- An instruction at a place, none of whose numbers leads farther than hi. -/
structure Sh1 (G : Nat) (b : Bool) (hi i : Nat) (x : Inn) : Prop where
  nine : x.op ≠ 9
  split : x.op = 1 → x.x = ((i + 1 : Nat) : Int) ∧ (i : Int) < x.y ∧ x.y ≤ (hi : Int)
  jump : x.op = 2 → 0 ≤ x.x ∧ x.x ≤ (hi : Int) ∧ x.x ≠ (i : Int)
  save : x.op = 3 → 0 ≤ x.x ∧ x.x ≤ 2 * (G : Int) + 1
  back : x.op = 4 → 1 ≤ x.x ∧ x.x ≤ (G : Int) ∧ b = true
def ShA (G : Nat) (b : Bool) (hi P : Nat) (l : List Inn) : Prop := ∀ j x, l[j]? = some x → Sh1 G b hi (P + j) x
theorem sh_nil {G : Nat} {b : Bool} {hi P : Nat} : ShA G b hi P [] := fun j x h => by simp at h
theorem sh_cons {G : Nat} {b : Bool} {hi P : Nat} {i : Inn} {l : List Inn} (h : Sh1 G b hi P i) (k : ShA G b hi (P + 1) l) : ShA G b hi P (i :: l) := fun j x hj => by
  cases j with
  | zero => simp at hj; subst hj; exact h
  | succ j => have := k j x (by simpa using hj); rwa [show P + (j + 1) = P + 1 + j by omega]
theorem sh_app {G : Nat} {b : Bool} {hi P Q : Nat} {a l : List Inn} (h : ShA G b hi P a) (hQ : P + a.length = Q) (k : ShA G b hi Q l) : ShA G b hi P (a ++ l) := fun j x hj => by
  by_cases hlt : j < a.length
  · rw [List.getElem?_append_left hlt] at hj; exact h j x hj
  · rw [List.getElem?_append_right (by omega)] at hj
    have := k _ x hj
    rwa [show Q + (j - a.length) = P + j by omega] at this
/-- The plain ones. -/
theorem sh_plain {G : Nat} {b : Bool} {hi i : Nat} {x : Inn} (h : x.op = 0 ∨ x.op = 5 ∨ x.op = 6 ∨ x.op = 7 ∨ x.op = 8) : Sh1 G b hi i x := ⟨by omega, by omega, by omega, by omega, by omega⟩
theorem sh_split {G : Nat} {b : Bool} {hi i E : Nat} (h1 : i < E) (h2 : E ≤ hi) : Sh1 G b hi i (ins 1 (i + 1 : Nat) E) := ⟨by simp [ins], fun _ => ⟨rfl, by simp only [ins]; omega, by simp only [ins]; omega⟩, by simp [ins], by simp [ins], by simp [ins]⟩
theorem sh_jump {G : Nat} {b : Bool} {hi i E : Nat} (h1 : E ≠ i) (h2 : E ≤ hi) : Sh1 G b hi i (ins 2 E 0) := ⟨by simp [ins], by simp [ins], fun _ => ⟨by simp only [ins]; omega, by simp only [ins]; omega, by simp only [ins]; omega⟩, by simp [ins], by simp [ins]⟩
theorem sh_save {G : Nat} {b : Bool} {hi i : Nat} {n : Int} (h1 : 0 ≤ n) (h2 : n ≤ 2 * (G : Int) + 1) : Sh1 G b hi i (ins 3 n 0) := ⟨by simp [ins], by simp [ins], by simp [ins], fun _ => ⟨h1, h2⟩, by simp [ins]⟩
theorem sh_back {G : Nat} {b : Bool} {hi i : Nat} {n : Int} (h1 : 1 ≤ n) (h2 : n ≤ (G : Int)) (h3 : b = true) : Sh1 G b hi i (ins 4 n 0) := ⟨by simp [ins], by simp [ins], by simp [ins], by simp [ins], fun _ => ⟨h1, h2, h3⟩⟩
mutual
/-- Numbers of groups and Backs are at most G, and there are Backs only if b. -/
def grOk (G : Nat) (b : Bool) : Nd → Prop
  | .cat l => grOks G b l
  | .alt l => grOks G b l
  | .rep d _ _ => grOk G b d
  | .group n d => 1 ≤ n ∧ n ≤ (G : Int) ∧ grOk G b d
  | .back n => 1 ≤ n ∧ n ≤ (G : Int) ∧ b = true
  | _ => True
def grOks (G : Nat) (b : Bool) : List Nd → Prop
  | [] => True
  | d :: ds => grOk G b d ∧ grOks G b ds
end
theorem sh_copies {G : Nat} {b : Bool} {hi : Nat} (f : Nat → Nat → List Inn) (z q : Nat) (hz : ∀ P k, (f P k).length = z) (h : ∀ P k, P + z ≤ hi → ShA G b hi P (f P k)) : ∀ n P k, P + n * z ≤ hi → ShA G b hi P (copies f z q n P k)
  | 0, P, k, _ => by rw [copies]; exact sh_nil
  | n + 1, P, k, hn => by
    rw [Nat.succ_mul] at hn
    rw [copies]
    exact sh_app (h P k (by omega)) (by rw [hz]) (sh_copies f z q hz h n _ _ (by omega))
theorem sh_rounds {G : Nat} {b : Bool} {hi : Nat} (f : Nat → Nat → List Inn) (z q E : Nat) (hz : ∀ P k, (f P k).length = z) (hE : E ≤ hi) (h : ∀ P k, P + z ≤ hi → ShA G b hi P (f P k)) : ∀ n P k, P + n * (z + 3) ≤ E → ShA G b hi P (rounds f z q E n P k)
  | 0, P, k, _ => by rw [rounds]; exact sh_nil
  | n + 1, P, k, hn => by
    rw [Nat.succ_mul] at hn
    rw [rounds]
    refine sh_cons (sh_split (by omega) hE) (sh_cons (sh_plain (by simp [ins])) (sh_app (h (P + 2) (k + 1) (by omega)) (by rw [hz]) (sh_cons (sh_plain (by simp [ins])) ?_)))
    rw [show P + 2 + z + 1 = P + z + 3 by omega]
    exact sh_rounds f z q E hz hE h n _ _ (by omega)
mutual
theorem sh_cd {G : Nat} {b : Bool} {hi : Nat} : ∀ (d : Nd) (P k : Nat), grOk G b d → P + csz d ≤ hi → ShA G b hi P (cd d P k)
  | .empty, P, k, _, _ => by rw [cd]; exact sh_nil
  | .one s, P, k, _, _ => by rw [cd]; exact sh_cons (sh_plain (.inl rfl)) sh_nil
  | .cat l, P, k, hg, hh => by rw [cd]; rw [csz] at hh; exact sh_cds l P k hg hh
  | .alt l, P, k, hg, hh => by rw [cd]; rw [csz] at hh; exact sh_cda l P k _ hg (Nat.le_refl _) hh
  | .rep d mn mx, P, k, hg, hh => by
    have hz : ∀ P k, ((fun P k => cd d P k) P k).length = csz d := fun P k => cd_len d P k
    have hf : ∀ P k, P + csz d ≤ hi → ShA G b hi P ((fun P k => cd d P k) P k) := fun P k h => sh_cd d P k hg h
    rw [csz] at hh
    rw [cd]
    refine sh_app (sh_copies _ _ _ hz hf _ _ _ (by split at hh <;> omega)) (by rw [copies_len _ _ _ hz]) ?_
    split
    · rename_i hm
      rw [if_pos hm] at hh
      unfold endless
      refine sh_cons (sh_split (by omega) (by omega)) (sh_cons (sh_plain (by simp [ins])) (sh_app (hf _ _ (by omega)) (by rw [hz]) (sh_cons (sh_plain (by simp [ins])) (sh_cons (sh_jump (by omega) (by omega)) sh_nil))))
    · rename_i hm
      rw [if_neg hm] at hh
      exact sh_rounds _ _ _ _ hz (by omega) hf _ _ _ (Nat.le_refl _)
  | .group n d, P, k, hg, hh => by
    obtain ⟨g1, g2, g3⟩ := hg
    rw [csz] at hh
    rw [cd]
    exact sh_cons (sh_save (by omega) (by omega)) (sh_app (sh_cd d _ _ g3 (by omega)) (by rw [cd_len]) (sh_cons (sh_save (by omega) (by omega)) sh_nil))
  | .back n, P, k, hg, hh => by rw [cd]; exact sh_cons (sh_back hg.1 hg.2.1 hg.2.2) sh_nil
  | .start, P, k, _, _ => by rw [cd]; exact sh_cons (sh_plain (by simp [ins])) sh_nil
  | .fin, P, k, _, _ => by rw [cd]; exact sh_cons (sh_plain (by simp [ins])) sh_nil
theorem sh_cds {G : Nat} {b : Bool} {hi : Nat} : ∀ (l : List Nd) (P k : Nat), grOks G b l → P + cszs l ≤ hi → ShA G b hi P (cds l P k)
  | [], P, k, _, _ => by rw [cds]; exact sh_nil
  | d :: ds, P, k, hg, hh => by
    rw [cszs] at hh
    rw [cds]
    exact sh_app (sh_cd d P k hg.1 (by omega)) (by rw [cd_len]) (sh_cds ds _ _ hg.2 (by omega))
theorem sh_cda {G : Nat} {b : Bool} {hi : Nat} : ∀ (l : List Nd) (P k E : Nat), grOks G b l → P + (cszs l + 2 * (l.length - 1)) ≤ E → E ≤ hi → ShA G b hi P (cda l P k E)
  | [], P, k, E, _, _, _ => by rw [cda]; exact sh_nil
  | d :: ds, P, k, E, hg, hh, hE => by
    rw [cszs, List.length_cons] at hh
    rw [cda]
    split
    · exact sh_cd d P k hg.1 (by omega)
    · rename_i h
      have hn : 0 < ds.length := List.length_pos_iff.2 (by simpa using h)
      refine sh_cons (sh_split (by omega) (by omega)) (sh_app (sh_cd d _ _ hg.1 (by omega)) (by rw [cd_len]) (sh_cons (sh_jump (by omega) hE) ?_))
      rw [show P + 1 + csz d + 1 = P + csz d + 2 by omega]
      exact sh_cda ds _ _ E hg.2 (by omega) hE
end
end Go.Proofs.Ytjjhkagpoicimaa
