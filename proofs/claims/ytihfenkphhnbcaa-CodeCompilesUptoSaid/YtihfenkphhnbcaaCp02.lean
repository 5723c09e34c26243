/- The proof's texts CoMa, CoMb, CoMc, CoMd: what the claim reaches of them. -/
import Derived.Test.YtihfenkphhnbcaaCp01
namespace Go.Proofs.Ytihfenkphhnbcaa
structure Inn where
  op : Int
  set : OSet
  x : Int
  y : Int
deriving DecidableEq
def ins (op x y : Int) : Inn := ⟨op, 0, x, y⟩
mutual
/-- How many instructions a node has. -/
def csz : Nd → Nat
  | .empty => 0
  | .one _ => 1
  | .cat l => cszs l
  | .alt l => cszs l + 2 * (l.length - 1)
  | .rep d mn mx => mn.toNat * csz d + (if mx = -1 then csz d + 4 else (mx - mn).toNat * (csz d + 3))
  | .group _ d => csz d + 2
  | .back _ => 1
  | .start => 1
  | .fin => 1
def cszs : List Nd → Nat
  | [] => 0
  | d :: ds => csz d + cszs ds
end
mutual
/-- How many loops. -/
def clp : Nd → Nat
  | .cat l => clps l
  | .alt l => clps l
  | .rep d mn mx => mn.toNat * clp d + (if mx = -1 then clp d + 1 else (mx - mn).toNat * (clp d + 1))
  | .group _ d => clp d
  | _ => 0
def clps : List Nd → Nat
  | [] => 0
  | d :: ds => clp d + clps ds
end
def copies (f : Nat → Nat → List Inn) (z q : Nat) : Nat → Nat → Nat → List Inn
  | 0, _, _ => []
  | n + 1, P, k => f P k ++ copies f z q n (P + z) (k + q)
def rounds (f : Nat → Nat → List Inn) (z q E : Nat) : Nat → Nat → Nat → List Inn
  | 0, _, _ => []
  | n + 1, P, k => ins 1 (P + 1 : Nat) E :: ins 7 k 0 :: (f (P + 2) (k + 1) ++ ins 8 k 0 :: rounds f z q E n (P + z + 3) (k + q + 1))
def endless (f : Nat → Nat → List Inn) (z : Nat) (P k : Nat) : List Inn := ins 1 (P + 1 : Nat) (P + z + 4 : Nat) :: ins 7 k 0 :: (f (P + 2) (k + 1) ++ [ins 8 k 0, ins 2 P 0])
mutual
/-- A node's instructions, laid from place P on, its loops from k on. -/
def cd : Nd → Nat → Nat → List Inn
  | .empty, _, _ => []
  | .one s, _, _ => [⟨0, s, 0, 0⟩]
  | .cat l, P, k => cds l P k
  | .alt l, P, k => cda l P k (P + (cszs l + 2 * (l.length - 1)))
  | .rep d mn mx, P, k => copies (fun P k => cd d P k) (csz d) (clp d) mn.toNat P k ++
      if mx = -1 then endless (fun P k => cd d P k) (csz d) (P + mn.toNat * csz d) (k + mn.toNat * clp d)
      else rounds (fun P k => cd d P k) (csz d) (clp d) (P + mn.toNat * csz d + (mx - mn).toNat * (csz d + 3)) (mx - mn).toNat (P + mn.toNat * csz d) (k + mn.toNat * clp d)
  | .group n d, P, k => ins 3 (2 * n) 0 :: (cd d (P + 1) k ++ [ins 3 (2 * n + 1) 0])
  | .back n, _, _ => [ins 4 n 0]
  | .start, _, _ => [ins 5 0 0]
  | .fin, _, _ => [ins 6 0 0]
def cds : List Nd → Nat → Nat → List Inn
  | [], _, _ => []
  | d :: ds, P, k => cd d P k ++ cds ds (P + csz d) (k + clp d)
/-- Branches; E is behind the last. -/
def cda : List Nd → Nat → Nat → Nat → List Inn
  | [], _, _, _ => []
  | d :: ds, P, k, E => if ds.isEmpty then cd d P k else
      ins 1 (P + 1 : Nat) (P + csz d + 2 : Nat) :: (cd d (P + 1) k ++ ins 2 E 0 :: cda ds (P + csz d + 2) (k + clp d) E)
end
theorem copies_len (f : Nat → Nat → List Inn) (z q : Nat) (h : ∀ P k, (f P k).length = z) : ∀ n P k, (copies f z q n P k).length = n * z
  | 0, P, k => by simp [copies]
  | n + 1, P, k => by rw [copies, List.length_append, h, copies_len f z q h n, Nat.succ_mul]; omega
theorem rounds_len (f : Nat → Nat → List Inn) (z q E : Nat) (h : ∀ P k, (f P k).length = z) : ∀ n P k, (rounds f z q E n P k).length = n * (z + 3)
  | 0, P, k => by simp [rounds]
  | n + 1, P, k => by rw [rounds]; simp only [List.length_cons, List.length_append, h]; rw [rounds_len f z q E h n, Nat.succ_mul]; omega
mutual
theorem cd_len : ∀ (d : Nd) (P k : Nat), (cd d P k).length = csz d
  | .empty, P, k => by simp [cd, csz]
  | .one s, P, k => by simp [cd, csz]
  | .cat l, P, k => by rw [cd, csz]; exact cds_len l P k
  | .alt l, P, k => by rw [cd, csz]; exact cda_len l P k _
  | .rep d mn mx, P, k => by
    have hf : ∀ P k, ((fun P k => cd d P k) P k).length = csz d := fun P k => cd_len d P k
    rw [cd, csz, List.length_append, copies_len _ _ _ hf]
    split
    · unfold endless; simp only [List.length_cons, List.length_append, hf]; simp
    · rw [rounds_len _ _ _ _ hf]
  | .group n d, P, k => by rw [cd, csz]; simp [cd_len d]
  | .back n, P, k => by simp [cd, csz]
  | .start, P, k => by simp [cd, csz]
  | .fin, P, k => by simp [cd, csz]
theorem cds_len : ∀ (l : List Nd) (P k : Nat), (cds l P k).length = cszs l
  | [], P, k => by simp [cds, cszs]
  | d :: ds, P, k => by rw [cds, cszs, List.length_append, cd_len d, cds_len ds]
theorem cda_len : ∀ (l : List Nd) (P k E : Nat), (cda l P k E).length = cszs l + 2 * (l.length - 1)
  | [], P, k, E => by simp [cda, cszs]
  | d :: ds, P, k, E => by
    rw [cda, cszs]
    split
    · rename_i h
      obtain rfl : ds = [] := by simpa using h
      rw [cd_len d]; simp [cszs]
    · rename_i h
      have hn : 0 < ds.length := List.length_pos_iff.2 (by simpa using h)
      simp only [List.length_cons, List.length_append, cd_len d, cda_len ds]
      omega
end
def Inn.by (i : Inn) (b q : Nat) : Inn :=
  if i.op = 1 then { i with x := i.x + b, y := i.y + b } else if i.op = 2 then { i with x := i.x + b } else if i.op = 7 ∨ i.op = 8 then { i with x := i.x + q } else i
theorem copies_by (f : Nat → Nat → List Inn) (z q b c : Nat) (h : ∀ P k, f (P + b) (k + c) = (f P k).map (·.by b c)) : ∀ n P k, copies f z q n (P + b) (k + c) = (copies f z q n P k).map (·.by b c)
  | 0, P, k => by simp [copies]
  | n + 1, P, k => by
    rw [copies, copies, List.map_append, h, ← copies_by f z q b c h n]
    congr 2 <;> omega
theorem rounds_by (f : Nat → Nat → List Inn) (z q E b c : Nat) (h : ∀ P k, f (P + b) (k + c) = (f P k).map (·.by b c)) : ∀ n P k, rounds f z q (E + b) n (P + b) (k + c) = (rounds f z q E n P k).map (·.by b c)
  | 0, P, k => by simp [rounds]
  | n + 1, P, k => by
    rw [rounds, rounds]
    simp only [List.map_cons, List.map_append]
    rw [← rounds_by f z q E b c h n, ← h, show P + b + 2 = P + 2 + b by omega, show k + c + 1 = k + 1 + c by omega, show P + b + z + 3 = P + z + 3 + b by omega, show k + c + q + 1 = k + q + 1 + c by omega]
    simp [ins, Inn.by]
    omega
theorem endless_by (f : Nat → Nat → List Inn) (z b c : Nat) (h : ∀ P k, f (P + b) (k + c) = (f P k).map (·.by b c)) (P k : Nat) : endless f z (P + b) (k + c) = (endless f z P k).map (·.by b c) := by
  unfold endless
  simp only [List.map_cons, List.map_append, List.map_nil]
  rw [← h, show P + b + 2 = P + 2 + b by omega, show k + c + 1 = k + 1 + c by omega]
  simp [ins, Inn.by]
  omega
mutual
theorem cd_by (b c : Nat) : ∀ (d : Nd) (P k : Nat), cd d (P + b) (k + c) = (cd d P k).map (·.by b c)
  | .empty, P, k => by simp [cd]
  | .one s, P, k => by simp [cd, Inn.by]
  | .cat l, P, k => by rw [cd, cd]; exact cds_by b c l P k
  | .alt l, P, k => by rw [cd, cd, ← cda_by b c l P k, show P + b + (cszs l + 2 * (l.length - 1)) = P + (cszs l + 2 * (l.length - 1)) + b by omega]
  | .rep d mn mx, P, k => by
    have hf : ∀ P k, (fun P k => cd d P k) (P + b) (k + c) = ((fun P k => cd d P k) P k).map (·.by b c) := fun P k => cd_by b c d P k
    rw [cd, cd, List.map_append, ← copies_by _ _ _ b c hf]
    congr 1
    split
    · rw [← endless_by _ _ b c hf]; congr 1 <;> omega
    · rw [← rounds_by _ _ _ _ b c hf]; congr 1 <;> omega
  | .group n d, P, k => by rw [cd, cd, show P + b + 1 = P + 1 + b by omega, cd_by b c d]; simp [ins, Inn.by]
  | .back n, P, k => by simp [cd, ins, Inn.by]
  | .start, P, k => by simp [cd, ins, Inn.by]
  | .fin, P, k => by simp [cd, ins, Inn.by]
theorem cds_by (b c : Nat) : ∀ (l : List Nd) (P k : Nat), cds l (P + b) (k + c) = (cds l P k).map (·.by b c)
  | [], P, k => by simp [cds]
  | d :: ds, P, k => by rw [cds, cds, cd_by b c d, show P + b + csz d = P + csz d + b by omega, show k + c + clp d = k + clp d + c by omega, cds_by b c ds, List.map_append]
theorem cda_by (b c : Nat) : ∀ (l : List Nd) (P k E : Nat), cda l (P + b) (k + c) (E + b) = (cda l P k E).map (·.by b c)
  | [], P, k, E => by simp [cda]
  | d :: ds, P, k, E => by
    rw [cda, cda]
    split
    · exact cd_by b c d P k
    · simp only [List.map_cons, List.map_append]
      rw [show P + b + 1 = P + 1 + b by omega, cd_by b c d, show P + b + csz d + 2 = P + csz d + 2 + b by omega, show k + c + clp d = k + clp d + c by omega, cda_by b c ds]
      simp [ins, Inn.by]
end
end Go.Proofs.Ytihfenkphhnbcaa
namespace Go.Proofs.Ytihfenkphhnbcaa
def upd (l : List Inn) (j : Nat) (f : Inn → Inn) : List Inn := l.set j (f (l.getD j (ins 0 0 0)))
def patch (v : Int) : List Nat → List Inn → List Inn
  | [], l => l
  | j :: js, l => patch v js (upd l j fun i => { i with x := v })
theorem upd_len (l : List Inn) (j : Nat) (f : Inn → Inn) : (upd l j f).length = l.length := by simp [upd]
theorem patch_len (v : Int) : ∀ (js : List Nat) (l : List Inn), (patch v js l).length = l.length
  | [], l => rfl
  | j :: js, l => by rw [patch, patch_len v js, upd_len]
theorem upd_left (l m : List Inn) (j : Nat) (f : Inn → Inn) (h : j < l.length) : upd (l ++ m) j f = upd l j f ++ m := by
  unfold upd
  rw [List.set_append_left _ _ h]
  simp [List.getD_eq_getElem?_getD, List.getElem?_append_left h]
theorem upd_mid (l m : List Inn) (i : Inn) (j : Nat) (f : Inn → Inn) (h : j = l.length) : upd (l ++ i :: m) j f = l ++ f i :: m := by
  subst h
  unfold upd
  rw [List.set_append_right _ _ (Nat.le_refl _)]
  simp [List.getD_eq_getElem?_getD]
theorem patch_left (v : Int) : ∀ (js : List Nat) (l m : List Inn), (∀ j ∈ js, j < l.length) → patch v js (l ++ m) = patch v js l ++ m
  | [], l, m, _ => rfl
  | j :: js, l, m, h => by
    rw [patch, patch, upd_left l m j _ (h j (List.mem_cons_self ..)), patch_left v js _ m (fun j' h' => by rw [upd_len]; exact h j' (List.mem_cons_of_mem _ h'))]
theorem patch_snoc (v : Int) : ∀ (js : List Nat) (j : Nat) (l : List Inn), patch v (js ++ [j]) l = upd (patch v js l) j fun i => { i with x := v }
  | [], j, l => rfl
  | i :: js, j, l => by rw [List.cons_append, patch, patch, patch_snoc v js]
def brs : List Nd → List Nat → List Inn → Nat → List Inn × Nat
  | [], _, l, k => (l, k)
  | d :: ds, js, l, k =>
    if ds.isEmpty then (patch (l.length + csz d : Nat) js (l ++ cd d l.length k), k + clp d)
    else brs ds (js ++ [l.length + 1 + csz d]) (upd (l ++ ins 1 (l.length + 1 : Nat) 0 :: (cd d (l.length + 1) k ++ [ins 2 0 0])) l.length fun i => { i with y := (l.length + csz d + 2 : Nat) }) (k + clp d)
theorem brs_eq : ∀ (ds : List Nd) (js : List Nat) (l : List Inn) (k : Nat), ds ≠ [] → (∀ j ∈ js, j < l.length) →
    brs ds js l k = (patch (l.length + (cszs ds + 2 * (ds.length - 1)) : Nat) js l ++ cda ds l.length k (l.length + (cszs ds + 2 * (ds.length - 1))), k + clps ds)
  | [], _, _, _, h, _ => absurd rfl h
  | d :: ds, js, l, k, _, hj => by
    rw [brs, cda]
    split
    · rename_i h
      obtain rfl : ds = [] := by simpa using h
      rw [patch_left _ js l _ hj]
      simp [cszs, clps]
    · rename_i h
      have h0 : ds ≠ [] := by simpa using h
      have hn : 0 < ds.length := List.length_pos_iff.2 h0
      rw [upd_mid l _ _ _ _ rfl]
      have hlen : (l ++ ins 1 (l.length + 1 : Nat) (l.length + csz d + 2 : Nat) :: (cd d (l.length + 1) k ++ [ins 2 0 0])).length = l.length + csz d + 2 := by simp [cd_len]; omega
      show brs ds _ (l ++ ins 1 (l.length + 1 : Nat) (l.length + csz d + 2 : Nat) :: (cd d (l.length + 1) k ++ [ins 2 0 0])) _ = _
      rw [brs_eq ds _ _ _ h0 (fun j hm => by
        rw [hlen]
        rcases List.mem_append.1 hm with hm | hm
        · have := hj j hm; omega
        · obtain rfl : j = _ := by simpa using hm
          omega), hlen, patch_snoc, patch_left _ js l _ hj]
      have hE : l.length + csz d + 2 + (cszs ds + 2 * (ds.length - 1)) = l.length + (cszs (d :: ds) + 2 * ((d :: ds).length - 1)) := by rw [cszs, List.length_cons]; omega
      rw [hE]
      generalize l.length + (cszs (d :: ds) + 2 * ((d :: ds).length - 1)) = E
      have hp := patch_len (E : Int) js l
      generalize patch (E : Int) js l = L at hp
      rw [show L ++ ins 1 (l.length + 1 : Nat) (l.length + csz d + 2 : Nat) :: (cd d (l.length + 1) k ++ [ins 2 0 0]) = (L ++ ins 1 (l.length + 1 : Nat) (l.length + csz d + 2 : Nat) :: cd d (l.length + 1) k) ++ ins 2 0 0 :: [] by simp,
        upd_mid _ _ _ _ _ (by simp [cd_len, hp]; omega)]
      simp [ins, clps, Nat.add_assoc]
def again (l : List Inn) (P z k q : Nat) (k1 : Nat) : List Inn × Nat := (l ++ ((l.drop P).take z).map (·.by (l.length - P) (k1 - k)), k1 + q)
theorem again_eq (d : Nd) (l : List Inn) (P k k1 : Nat) (hP : P ≤ l.length) (hk : k ≤ k1) (h : (l.drop P).take (csz d) = cd d P k) : again l P (csz d) k (clp d) k1 = (l ++ cd d l.length k1, k1 + clp d) := by
  unfold again
  rw [h, ← cd_by, show P + (l.length - P) = l.length by omega, show k + (k1 - k) = k1 by omega]
theorem held_app (l m : List Inn) (P z : Nat) (x : List Inn) (h : (l.drop P).take z = x) (hz : P + z ≤ l.length) : ((l ++ m).drop P).take z = x := by
  rw [List.drop_append_of_le_length (by omega), List.take_append_of_le_length (by simp; omega), h]
def agains (P z k q : Nat) : Nat → List Inn → Nat → List Inn × Nat
  | 0, l, k1 => (l, k1)
  | n + 1, l, k1 => agains P z k q n (again l P z k q k1).1 (again l P z k q k1).2
theorem agains_eq (d : Nd) (P k : Nat) : ∀ (n : Nat) (l : List Inn) (k1 : Nat), P + csz d ≤ l.length → k ≤ k1 → (l.drop P).take (csz d) = cd d P k →
    agains P (csz d) k (clp d) n l k1 = (l ++ copies (fun P k => cd d P k) (csz d) (clp d) n l.length k1, k1 + n * clp d)
  | 0, l, k1, _, _, _ => by simp [agains, copies]
  | n + 1, l, k1, hP, hk, h => by
    rw [agains, again_eq d l P k k1 (by omega) hk h]
    rw [agains_eq d P k n _ _ (by simp; omega) (by simp; omega) (held_app l _ P _ _ h hP), copies, Nat.succ_mul]
    simp [cd_len, Nat.add_assoc]
    omega
def agrounds (P z k q E : Nat) : Nat → List Inn → Nat → List Inn × Nat
  | 0, l, k1 => (l, k1)
  | n + 1, l, k1 =>
    let l1 := l ++ [ins 1 (l.length + 1 : Nat) E, ins 7 k1 0]
    let r := again l1 P z k q (k1 + 1)
    agrounds P z k q E n (r.1 ++ [ins 8 k1 0]) r.2
theorem agrounds_eq (d : Nd) (P k E : Nat) : ∀ (n : Nat) (l : List Inn) (k1 : Nat), P + csz d ≤ l.length → k ≤ k1 → (l.drop P).take (csz d) = cd d P k →
    agrounds P (csz d) k (clp d) E n l k1 = (l ++ rounds (fun P k => cd d P k) (csz d) (clp d) E n l.length k1, k1 + n * (clp d + 1))
  | 0, l, k1, _, _, _ => by simp [agrounds, rounds]
  | n + 1, l, k1, hP, hk, h => by
    rw [agrounds]
    rw [again_eq d _ P k (k1 + 1) (by simp; omega) (by omega) (held_app l _ P _ _ h hP)]
    simp only
    rw [agrounds_eq d P k E n _ _ (by simp; omega) (by omega) (by
      refine held_app _ _ P _ _ (held_app _ _ P _ _ (held_app l _ P _ _ h hP) (by simp; omega)) (by simp; omega)), rounds, Nat.succ_mul]
    simp [cd_len, Nat.add_assoc]
    refine ⟨?_, by omega⟩
    rw [show k1 + (1 + clp d) = k1 + (clp d + 1) by omega]
end Go.Proofs.Ytihfenkphhnbcaa
namespace Go.Proofs.Ytihfenkphhnbcaa
set_option linter.unusedVariables false
def againT (l : List Inn) (P z k q : Nat) (k1 : Nat) : List Inn × Nat := if 3000 < l.length then (l, k1) else again l P z k q k1
def againsT (P z k q : Nat) : Nat → List Inn → Nat → List Inn × Nat
  | 0, l, k1 => (l, k1)
  | n + 1, l, k1 => againsT P z k q n (againT l P z k q k1).1 (againT l P z k q k1).2
def agroundsT (P z k q E : Nat) : Nat → List Inn → Nat → List Inn × Nat
  | 0, l, k1 => (l, k1)
  | n + 1, l, k1 =>
    let l1 := l ++ [ins 1 (l.length + 1 : Nat) E, ins 7 k1 0]
    let r := againT l1 P z k q (k1 + 1)
    agroundsT P z k q E n (r.1 ++ [ins 8 k1 0]) r.2
theorem again_le (l : List Inn) (P z k q k1 : Nat) : l.length ≤ (again l P z k q k1).1.length := by simp [again]
theorem againT_le (l : List Inn) (P z k q k1 : Nat) : l.length ≤ (againT l P z k q k1).1.length := by
  unfold againT; split
  · exact Nat.le_refl _
  · exact again_le ..
theorem agains_le (P z k q : Nat) : ∀ (n : Nat) (l : List Inn) (k1 : Nat), l.length ≤ (agains P z k q n l k1).1.length
  | 0, l, k1 => Nat.le_refl _
  | n + 1, l, k1 => Nat.le_trans (again_le ..) (agains_le P z k q n _ _)
theorem againsT_le (P z k q : Nat) : ∀ (n : Nat) (l : List Inn) (k1 : Nat), l.length ≤ (againsT P z k q n l k1).1.length
  | 0, l, k1 => Nat.le_refl _
  | n + 1, l, k1 => Nat.le_trans (againT_le ..) (againsT_le P z k q n _ _)
theorem agrounds_le (P z k q E : Nat) : ∀ (n : Nat) (l : List Inn) (k1 : Nat), l.length ≤ (agrounds P z k q E n l k1).1.length
  | 0, l, k1 => Nat.le_refl _
  | n + 1, l, k1 => by
    rw [agrounds]
    refine Nat.le_trans ?_ (agrounds_le P z k q E n _ _)
    have := again_le (l ++ [ins 1 (l.length + 1 : Nat) E, ins 7 k1 0]) P z k q (k1 + 1)
    simp at this ⊢; omega
theorem agroundsT_le (P z k q E : Nat) : ∀ (n : Nat) (l : List Inn) (k1 : Nat), l.length ≤ (agroundsT P z k q E n l k1).1.length
  | 0, l, k1 => Nat.le_refl _
  | n + 1, l, k1 => by
    rw [agroundsT]
    refine Nat.le_trans ?_ (agroundsT_le P z k q E n _ _)
    have := againT_le (l ++ [ins 1 (l.length + 1 : Nat) E, ins 7 k1 0]) P z k q (k1 + 1)
    simp at this ⊢; omega
theorem againsT_eq (P z k q : Nat) : ∀ (n : Nat) (l : List Inn) (k1 : Nat),
    againsT P z k q n l k1 = agains P z k q n l k1 ∨ (3000 < (againsT P z k q n l k1).1.length ∧ 3000 < (agains P z k q n l k1).1.length)
  | 0, l, k1 => .inl rfl
  | n + 1, l, k1 => by
    by_cases h : 3000 < l.length
    · exact .inr ⟨Nat.lt_of_lt_of_le h (againsT_le ..), Nat.lt_of_lt_of_le h (agains_le ..)⟩
    · rw [againsT, agains, againT, if_neg h]
      exact againsT_eq P z k q n _ _
theorem agroundsT_eq (P z k q E : Nat) : ∀ (n : Nat) (l : List Inn) (k1 : Nat),
    agroundsT P z k q E n l k1 = agrounds P z k q E n l k1 ∨ (3000 < (agroundsT P z k q E n l k1).1.length ∧ 3000 < (agrounds P z k q E n l k1).1.length)
  | 0, l, k1 => .inl rfl
  | n + 1, l, k1 => by
    rw [agroundsT, agrounds]
    simp only [againT]
    split
    · rename_i h
      refine .inr ⟨Nat.lt_of_lt_of_le ?_ (agroundsT_le ..), Nat.lt_of_lt_of_le ?_ (agrounds_le ..)⟩
      · simp at h ⊢; omega
      · have := again_le (l ++ [ins 1 (l.length + 1 : Nat) E, ins 7 k1 0]) P z k q (k1 + 1)
        simp at h this ⊢; omega
    · exact agroundsT_eq P z k q E n _ _
def repT (mn mx : Int) (P z k q : Nat) (l : List Inn) (k1 : Nat) : List Inn × Nat :=
  let R := if mx = -1 then 1 else (mx - mn).toNat
  let J := if mx = -1 then 1 else 0
  if mn = 0 then
    let E := P - 2 + R * (z + 3) + J
    let r := agroundsT P z k q E (R - 1) (upd l (P - 2) (fun i => { i with y := E }) ++ [ins 8 (k - 1 : Nat) 0]) k1
    (r.1 ++ List.replicate J (ins 2 (P - 2 : Nat) 0), r.2)
  else
    let F := P + mn.toNat * z
    let E := F + R * (z + 3) + J
    let r := againsT P z k q (mn.toNat - 1) l k1
    let s := agroundsT P z k q E R r.1 r.2
    (s.1 ++ List.replicate J (ins 2 F 0), s.2)
theorem rounds_all (d : Nd) (mn mx : Int) (F k : Nat) : (if mx = -1 then endless (fun P k => cd d P k) (csz d) F k else rounds (fun P k => cd d P k) (csz d) (clp d) (F + (mx - mn).toNat * (csz d + 3)) (mx - mn).toNat F k) =
    rounds (fun P k => cd d P k) (csz d) (clp d) (F + (if mx = -1 then 1 else (mx - mn).toNat) * (csz d + 3) + (if mx = -1 then 1 else 0)) (if mx = -1 then 1 else (mx - mn).toNat) F k ++ List.replicate (if mx = -1 then 1 else 0) (ins 2 F 0) := by
  split
  · simp [endless, rounds, Nat.add_assoc]
  · simp
theorem corep_some (d : Nd) (mn mx : Int) (h0 : 0 < mn) (l : List Inn) (k : Nat) :
    repT mn mx l.length (csz d) k (clp d) (l ++ cd d l.length k) (k + clp d) = (l ++ cd (.rep d mn mx) l.length k, k + clp (.rep d mn mx)) ∨
      (3000 < (repT mn mx l.length (csz d) k (clp d) (l ++ cd d l.length k) (k + clp d)).1.length ∧ 3000 < l.length + csz (.rep d mn mx)) := by
  obtain ⟨m, rfl⟩ : ∃ m : Nat, mn = m + 1 := ⟨(mn - 1).toNat, by omega⟩
  have hm : ((m : Int) + 1).toNat = m + 1 := by omega
  have hlen := cd_len (.rep d (m + 1) mx) l.length k
  rw [cd, rounds_all, hm] at hlen
  have hh : ((l ++ cd d l.length k).drop l.length).take (csz d) = cd d l.length k := by rw [List.drop_left, List.take_of_length_le (by rw [cd_len]; exact Nat.le_refl _)]
  have ha := agains_eq d l.length k m (l ++ cd d l.length k) (k + clp d) (by simp [cd_len]) (by omega) hh
  have hlp : clp (.rep d ((m : Int) + 1) mx) = (m + 1) * clp d + (if mx = -1 then 1 else (mx - (m + 1)).toNat) * (clp d + 1) := by rw [clp, hm]; split <;> simp
  rw [cd, rounds_all, hm, hlp]
  unfold repT
  rw [if_neg (by omega), hm, Nat.add_sub_cancel]
  simp only
  generalize (if mx = -1 then 1 else (mx - (m + 1)).toNat) = R at *
  generalize (if mx = -1 then 1 else 0) = J at *
  generalize hE : l.length + (m + 1) * csz d + R * (csz d + 3) + J = E at *
  have hcp : l ++ cd d l.length k ++ copies (fun P k => cd d P k) (csz d) (clp d) m (l ++ cd d l.length k).length (k + clp d) = l ++ copies (fun P k => cd d P k) (csz d) (clp d) (m + 1) l.length k := by rw [copies]; simp [cd_len]
  rw [hcp] at ha
  have hsz : (copies (fun P k => cd d P k) (csz d) (clp d) (m + 1) l.length k).length = (m + 1) * csz d := copies_len _ _ _ (fun P k => cd_len d P k) _ _ _
  have hk : k + clp d + m * clp d = k + (m + 1) * clp d := by rw [Nat.succ_mul]; omega
  rw [hk] at ha
  have hr := agrounds_eq d l.length k E R (l ++ copies (fun P k => cd d P k) (csz d) (clp d) (m + 1) l.length k) (k + (m + 1) * clp d) (by simp only [List.length_append, hsz, Nat.succ_mul]; omega) (by omega) (by
    rw [← hcp]; exact held_app _ _ _ _ _ hh (by simp [cd_len]))
  simp only [List.length_append, hsz] at hr
  have hlen2 : (cd (.rep d (m + 1) mx) l.length k).length = csz (.rep d (m + 1) mx) := cd_len _ _ _
  rcases againsT_eq l.length (csz d) k (clp d) m (l ++ cd d l.length k) (k + clp d) with h1 | ⟨h1, h2⟩
  · rw [h1, ha]
    simp only
    rcases agroundsT_eq l.length (csz d) k (clp d) E R (l ++ copies (fun P k => cd d P k) (csz d) (clp d) (m + 1) l.length k) (k + (m + 1) * clp d) with h3 | ⟨h3, h4⟩
    · left
      rw [h3, hr]
      simp [Nat.add_assoc]
    · right
      rw [hr] at h4
      simp only [List.length_append] at h3 h4 hlen ⊢
      omega
  · right
    rw [ha] at h2
    have := agroundsT_le l.length (csz d) k (clp d) E R (againsT l.length (csz d) k (clp d) m (l ++ cd d l.length k) (k + clp d)).1 (againsT l.length (csz d) k (clp d) m (l ++ cd d l.length k) (k + clp d)).2
    simp only [List.length_append] at h2 hlen ⊢
    omega
theorem corep_none (d : Nd) (mx : Int) (h0 : mx ≠ 0) (h1 : -1 ≤ mx) (l : List Inn) (k : Nat) :
    repT 0 mx (l.length + 2) (csz d) (k + 1) (clp d) (l ++ [ins 1 (l.length + 1 : Nat) 0, ins 7 k 0] ++ cd d (l.length + 2) (k + 1)) (k + 1 + clp d) = (l ++ cd (.rep d 0 mx) l.length k, k + clp (.rep d 0 mx)) ∨
      (3000 < (repT 0 mx (l.length + 2) (csz d) (k + 1) (clp d) (l ++ [ins 1 (l.length + 1 : Nat) 0, ins 7 k 0] ++ cd d (l.length + 2) (k + 1)) (k + 1 + clp d)).1.length ∧ 3000 < l.length + csz (.rep d 0 mx)) := by
  obtain ⟨m, hm⟩ : ∃ m : Nat, (if mx = -1 then 1 else (mx - 0).toNat) = m + 1 := by
    split
    · exact ⟨0, rfl⟩
    · exact ⟨(mx - 1).toNat, by omega⟩
  have hlen := cd_len (.rep d 0 mx) l.length k
  rw [cd, rounds_all, show (0 : Int).toNat = 0 from rfl, copies, hm] at hlen
  have hlp : clp (.rep d 0 mx) = (m + 1) * (clp d + 1) := by
    rw [clp, show (0 : Int).toNat = 0 from rfl, Nat.zero_mul, Nat.zero_add, ← hm]; split <;> simp
  rw [cd, rounds_all, hlp, show (0 : Int).toNat = 0 from rfl, copies, hm, Nat.zero_mul, Nat.zero_mul, Nat.add_zero, Nat.add_zero, List.nil_append]
  rw [Nat.zero_mul, Nat.zero_mul, Nat.add_zero, Nat.add_zero, List.nil_append] at hlen
  unfold repT
  rw [if_pos rfl, hm, Nat.add_sub_cancel, Nat.add_sub_cancel, Nat.add_sub_cancel]
  simp only
  generalize (if mx = -1 then 1 else 0) = J at *
  generalize hE : l.length + (m + 1) * (csz d + 3) + J = E at *
  have hup : upd (l ++ [ins 1 (l.length + 1 : Nat) 0, ins 7 k 0] ++ cd d (l.length + 2) (k + 1)) l.length (fun i => { i with y := (E : Int) }) = l ++ ins 1 (l.length + 1 : Nat) E :: ins 7 k 0 :: cd d (l.length + 2) (k + 1) := by
    rw [show l ++ [ins 1 (l.length + 1 : Nat) 0, ins 7 k 0] ++ cd d (l.length + 2) (k + 1) = l ++ ins 1 (l.length + 1 : Nat) 0 :: (ins 7 k 0 :: cd d (l.length + 2) (k + 1)) by simp, upd_mid l _ _ _ _ rfl]
    rfl
  rw [hup]
  generalize hL : l ++ ins 1 (l.length + 1 : Nat) E :: ins 7 k 0 :: cd d (l.length + 2) (k + 1) ++ [ins 8 k 0] = L
  have hLl : L.length = l.length + csz d + 3 := by rw [← hL]; simp [cd_len]; omega
  have hh : (L.drop (l.length + 2)).take (csz d) = cd d (l.length + 2) (k + 1) := by
    rw [← hL, show l ++ ins 1 (l.length + 1 : Nat) E :: ins 7 k 0 :: cd d (l.length + 2) (k + 1) ++ [ins 8 k 0] = (l ++ [ins 1 (l.length + 1 : Nat) E, ins 7 k 0]) ++ (cd d (l.length + 2) (k + 1) ++ [ins 8 k 0]) by simp]
    rw [show l.length + 2 = (l ++ [ins 1 (l.length + 1 : Nat) (E : Int), ins 7 k 0]).length by simp, List.drop_left, List.take_left' (by rw [cd_len])]
  have hr := agrounds_eq d (l.length + 2) (k + 1) E m L (k + 1 + clp d) (by omega) (by omega) hh
  rw [hLl] at hr
  have hroll : L ++ rounds (fun P k => cd d P k) (csz d) (clp d) E m (l.length + csz d + 3) (k + 1 + clp d) = l ++ rounds (fun P k => cd d P k) (csz d) (clp d) E (m + 1) l.length k := by
    rw [rounds, ← hL, show k + clp d + 1 = k + 1 + clp d by omega]
    simp
  rw [hroll] at hr
  rcases agroundsT_eq (l.length + 2) (csz d) (k + 1) (clp d) E m L (k + 1 + clp d) with h3 | ⟨h3, h4⟩
  · left
    rw [h3, hr]
    simp [Nat.succ_mul]
    omega
  · right
    rw [hr] at h4
    simp only [List.length_append, Nat.add_zero] at h3 h4 hlen ⊢
    omega
end Go.Proofs.Ytihfenkphhnbcaa
namespace Go.Proofs.Ytihfenkphhnbcaa
set_option linter.unusedVariables false
inductive CTk where
  | lay (d : Nd)
  | save (n : Int)
  | turn (ds : List Nd)
  | branch (split : Nat) (ds : List Nd) (js : List Nat)
  | jumps (js : List Nat)
  | rep (mn mx : Int) (P k : Nat)
def Eqv (a b : List Inn × Nat) : Prop := a = b ∨ (3000 < a.1.length ∧ 3000 < b.1.length)
theorem Eqv.refl (a : List Inn × Nat) : Eqv a a := .inl rfl
theorem Eqv.trans {a b c : List Inn × Nat} (h : Eqv a b) (k : Eqv b c) : Eqv a c := by
  rcases h with rfl | h
  · exact k
  · rcases k with rfl | k
    · exact .inr h
    · exact .inr ⟨h.1, k.2⟩
def den : CTk → List Inn × Nat → List Inn × Nat
  | .lay d, (l, k) => (l ++ cd d l.length k, k + clp d)
  | .save n, (l, k) => (l ++ [ins 3 (2 * n + 1) 0], k)
  | .turn ds, (l, k) => (l ++ cds ds l.length k, k + clps ds)
  | .branch s ds js, (l, k) => brs ds (js ++ [l.length]) (upd (l ++ [ins 2 0 0]) s fun i => { i with y := (l.length + 1 : Nat) }) k
  | .jumps js, (l, k) => (patch (l.length : Nat) js l, k)
  | .rep mn mx P q, (l, k) => repT mn mx P (l.length - P) q (k - q) l k
def dens : List CTk → List Inn × Nat → List Inn × Nat
  | [], s => s
  | t :: ts, s => dens ts (den t s)
theorem dens_app : ∀ (a b : List CTk) (s : List Inn × Nat), dens (a ++ b) s = dens b (dens a s)
  | [], b, s => rfl
  | t :: a, b, s => dens_app a b (den t s)
def coTurn : List Nd → List CTk
  | [] => []
  | d :: ds => [.lay d, .turn ds]
def brSt : List Nd → List Nat → List Inn → List Inn × List CTk
  | [], js, l => (l, [])
  | d :: ds, js, l => if ds.isEmpty then (l, [.lay d, .jumps js]) else (l ++ [ins 1 (l.length + 1 : Nat) 0], [.lay d, .branch l.length ds js])
def stp : CTk → List Inn → Nat → (List Inn × Nat) × List CTk
  | .lay .empty, l, k => ((l, k), [])
  | .lay (.one s), l, k => ((l ++ [⟨0, s, 0, 0⟩], k), [])
  | .lay (.cat ds), l, k => ((l, k), coTurn ds)
  | .lay (.alt ds), l, k => (((brSt ds [] l).1, k), (brSt ds [] l).2)
  | .lay (.rep d mn mx), l, k => if mx = 0 then ((l, k), []) else if mn = 0 then ((l ++ [ins 1 (l.length + 1 : Nat) 0, ins 7 k 0], k + 1), [.lay d, .rep mn mx (l.length + 2) (k + 1)]) else ((l, k), [.lay d, .rep mn mx l.length k])
  | .lay (.group n d), l, k => ((l ++ [ins 3 (2 * n) 0], k), [.lay d, .save n])
  | .lay (.back n), l, k => ((l ++ [ins 4 n 0], k), [])
  | .lay .start, l, k => ((l ++ [ins 5 0 0], k), [])
  | .lay .fin, l, k => ((l ++ [ins 6 0 0], k), [])
  | .save n, l, k => ((l ++ [ins 3 (2 * n + 1) 0], k), [])
  | .turn ds, l, k => ((l, k), coTurn ds)
  | .branch s ds js, l, k =>
    let l1 := upd (l ++ [ins 2 0 0]) s fun i => { i with y := (l.length + 1 : Nat) }
    (((brSt ds (js ++ [l.length]) l1).1, k), (brSt ds (js ++ [l.length]) l1).2)
  | .jumps js, l, k => ((patch (l.length : Nat) js l, k), [])
  | .rep mn mx P q, l, k => (repT mn mx P (l.length - P) q (k - q) l k, [])
theorem inturn_den (ds : List Nd) (l : List Inn) (k : Nat) : dens (coTurn ds) (l, k) = (l ++ cds ds l.length k, k + clps ds) := by
  cases ds with
  | nil => simp [coTurn, dens, cds, clps]
  | cons d ds => simp [coTurn, dens, den, cds, clps, cd_len, Nat.add_assoc]
theorem brst_den (ds : List Nd) (js : List Nat) (l : List Inn) (k : Nat) : dens (brSt ds js l).2 ((brSt ds js l).1, k) = brs ds js l k := by
  cases ds with
  | nil => rfl
  | cons d ds =>
    rw [brSt, brs]
    split
    · simp [dens, den, cd_len]
    · simp only [dens, den]
      have h1 : (l ++ [ins 1 (l.length + 1 : Nat) 0]).length = l.length + 1 := by simp
      rw [h1]
      have h2 : (l ++ [ins 1 (l.length + 1 : Nat) 0] ++ cd d (l.length + 1) k).length = l.length + 1 + csz d := by simp [cd_len]; omega
      rw [h2]
      congr 1
      rw [show l ++ [ins 1 (l.length + 1 : Nat) 0] ++ cd d (l.length + 1) k ++ [ins 2 0 0] = l ++ ins 1 (l.length + 1 : Nat) 0 :: (cd d (l.length + 1) k ++ [ins 2 0 0]) by simp, show l.length + 1 + csz d + 1 = l.length + csz d + 2 by omega]
def repOk (mn mx : Int) : Prop := 0 ≤ mn ∧ (mx = -1 ∨ mn ≤ mx)
theorem stp_den (t : CTk) (l : List Inn) (k : Nat) (hr : ∀ d mn mx, t = .lay (.rep d mn mx) → repOk mn mx) (ha : ∀ ds, t = .lay (.alt ds) → ds ≠ []) :
    Eqv (dens (stp t l k).2 (stp t l k).1) (den t (l, k)) := by
  cases t with
  | save n => exact .inl rfl
  | turn ds => exact .inl (inturn_den ds l k)
  | branch s ds js => exact .inl (brst_den ds _ _ k)
  | jumps js => exact .inl rfl
  | rep mn mx P q => exact .inl rfl
  | lay d =>
    cases d with
    | empty => left; simp [stp, dens, den, cd, clp]
    | one s => left; simp [stp, dens, den, cd, clp]
    | back n => left; simp [stp, dens, den, cd, clp]
    | start => left; simp [stp, dens, den, cd, clp]
    | fin => left; simp [stp, dens, den, cd, clp]
    | cat ds => left; rw [stp, inturn_den, den, cd, clp]
    | alt ds =>
      left
      rw [stp, brst_den, brs_eq ds [] l k (ha ds rfl) (by simp), den, cd, clp]; rfl
    | group n d => left; simp [stp, dens, den, cd, clp]
    | rep d mn mx =>
      obtain ⟨h1, h2⟩ := hr d mn mx rfl
      rw [stp]
      split
      · rename_i h0
        subst h0
        obtain rfl : mn = 0 := by omega
        left
        simp [dens, den, cd, clp, copies, rounds]
      · rename_i h0
        split
        · rename_i h3
          subst h3
          simp only [dens, den]
          have h4 : (l ++ [ins 1 (l.length + 1 : Nat) 0, ins 7 k 0]).length = l.length + 2 := by simp
          rw [h4]
          have h5 : (l ++ [ins 1 (l.length + 1 : Nat) 0, ins 7 k 0] ++ cd d (l.length + 2) (k + 1)).length - (l.length + 2) = csz d := by simp [cd_len]; omega
          rw [h5, Nat.add_sub_cancel_left]
          rcases corep_none d mx h0 (by omega) l k with h | ⟨h, h'⟩
          · exact .inl h
          · exact .inr ⟨h, by simp only [List.length_append, cd_len]; exact h'⟩
        · rename_i h3
          simp only [dens, den]
          have h5 : (l ++ cd d l.length k).length - l.length = csz d := by simp [cd_len]
          rw [h5, Nat.add_sub_cancel_left]
          rcases corep_some d mn mx (by omega) l k with h | ⟨h, h'⟩
          · exact .inl h
          · exact .inr ⟨h, by simp only [List.length_append, cd_len]; exact h'⟩
end Go.Proofs.Ytihfenkphhnbcaa
