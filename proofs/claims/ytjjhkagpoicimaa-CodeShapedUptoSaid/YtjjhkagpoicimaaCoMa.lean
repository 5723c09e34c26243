/- Plain mathematics of layer 7: a tree as a program: how many instructions and loops, which, and the same elsewhere. No program is named here. -/
import Derived.Test.YtjjhkagpoicimaaMaA
namespace Go.Proofs.Ytjjhkagpoicimaa

/-- An instruction. -/
structure Inn where
  op : Int
  set : OSet
  x : Int
  y : Int
deriving DecidableEq
/-- One that uses no set. -/
def ins (op x y : Int) : Inn := ⟨op, 0, x, y⟩
mutual
/-- How many instructions a node has. -/
def csz : Nd → Nat
  | .empty => 0
  | .one _ => 1
  | .cat l => cszs l
  | .alt l => cszs l + 2 * (l.length - 1)
  | .rep d mn mx => mn.toNat * csz d + (if mx = -1 then csz d + 4 else (mx - mn).toNat * (csz d + 3))
  | .group _ d => csz d + 2
  | .back _ => 1
  | .start => 1
  | .fin => 1
def cszs : List Nd → Nat
  | [] => 0
  | d :: ds => csz d + cszs ds
end
mutual
/-- How many loops. -/
def clp : Nd → Nat
  | .cat l => clps l
  | .alt l => clps l
  | .rep d mn mx => mn.toNat * clp d + (if mx = -1 then clp d + 1 else (mx - mn).toNat * (clp d + 1))
  | .group _ d => clp d
  | _ => 0
def clps : List Nd → Nat
  | [] => 0
  | d :: ds => clp d + clps ds
end
/-- A part so many times: its code by place and loop, its size, its loops; where, and from which loop on. -/
def copies (f : Nat → Nat → List Inn) (z q : Nat) : Nat → Nat → Nat → List Inn
  | 0, _, _ => []
  | n + 1, P, k => f P k ++ copies f z q n (P + z) (k + q)
/-- Rounds that need not be: E is behind them all. -/
def rounds (f : Nat → Nat → List Inn) (z q E : Nat) : Nat → Nat → Nat → List Inn
  | 0, _, _ => []
  | n + 1, P, k => ins 1 (P + 1 : Nat) E :: ins 7 k 0 :: (f (P + 2) (k + 1) ++ ins 8 k 0 :: rounds f z q E n (P + z + 3) (k + q + 1))
/-- The round of a Rep without an end. -/
def endless (f : Nat → Nat → List Inn) (z : Nat) (P k : Nat) : List Inn := ins 1 (P + 1 : Nat) (P + z + 4 : Nat) :: ins 7 k 0 :: (f (P + 2) (k + 1) ++ [ins 8 k 0, ins 2 P 0])
mutual
/-- A node's instructions, laid from place P on, its loops from k on. -/
def cd : Nd → Nat → Nat → List Inn
  | .empty, _, _ => []
  | .one s, _, _ => [⟨0, s, 0, 0⟩]
  | .cat l, P, k => cds l P k
  | .alt l, P, k => cda l P k (P + (cszs l + 2 * (l.length - 1)))
  | .rep d mn mx, P, k => copies (fun P k => cd d P k) (csz d) (clp d) mn.toNat P k ++
      if mx = -1 then endless (fun P k => cd d P k) (csz d) (P + mn.toNat * csz d) (k + mn.toNat * clp d)
      else rounds (fun P k => cd d P k) (csz d) (clp d) (P + mn.toNat * csz d + (mx - mn).toNat * (csz d + 3)) (mx - mn).toNat (P + mn.toNat * csz d) (k + mn.toNat * clp d)
  | .group n d, P, k => ins 3 (2 * n) 0 :: (cd d (P + 1) k ++ [ins 3 (2 * n + 1) 0])
  | .back n, _, _ => [ins 4 n 0]
  | .start, _, _ => [ins 5 0 0]
  | .fin, _, _ => [ins 6 0 0]
def cds : List Nd → Nat → Nat → List Inn
  | [], _, _ => []
  | d :: ds, P, k => cd d P k ++ cds ds (P + csz d) (k + clp d)
/-- Branches; E is behind the last. -/
def cda : List Nd → Nat → Nat → Nat → List Inn
  | [], _, _, _ => []
  | d :: ds, P, k, E => if ds.isEmpty then cd d P k else
      ins 1 (P + 1 : Nat) (P + csz d + 2 : Nat) :: (cd d (P + 1) k ++ ins 2 E 0 :: cda ds (P + csz d + 2) (k + clp d) E)
end
theorem copies_len (f : Nat → Nat → List Inn) (z q : Nat) (h : ∀ P k, (f P k).length = z) : ∀ n P k, (copies f z q n P k).length = n * z
  | 0, P, k => by simp [copies]
  | n + 1, P, k => by rw [copies, List.length_append, h, copies_len f z q h n, Nat.succ_mul]; omega
theorem rounds_len (f : Nat → Nat → List Inn) (z q E : Nat) (h : ∀ P k, (f P k).length = z) : ∀ n P k, (rounds f z q E n P k).length = n * (z + 3)
  | 0, P, k => by simp [rounds]
  | n + 1, P, k => by rw [rounds]; simp only [List.length_cons, List.length_append, h]; rw [rounds_len f z q E h n, Nat.succ_mul]; omega
mutual
theorem cd_len : ∀ (d : Nd) (P k : Nat), (cd d P k).length = csz d
  | .empty, P, k => by simp [cd, csz]
  | .one s, P, k => by simp [cd, csz]
  | .cat l, P, k => by rw [cd, csz]; exact cds_len l P k
  | .alt l, P, k => by rw [cd, csz]; exact cda_len l P k _
  | .rep d mn mx, P, k => by
    have hf : ∀ P k, ((fun P k => cd d P k) P k).length = csz d := fun P k => cd_len d P k
    rw [cd, csz, List.length_append, copies_len _ _ _ hf]
    split
    · unfold endless; simp only [List.length_cons, List.length_append, hf]; simp
    · rw [rounds_len _ _ _ _ hf]
  | .group n d, P, k => by rw [cd, csz]; simp [cd_len d]
  | .back n, P, k => by simp [cd, csz]
  | .start, P, k => by simp [cd, csz]
  | .fin, P, k => by simp [cd, csz]
theorem cds_len : ∀ (l : List Nd) (P k : Nat), (cds l P k).length = cszs l
  | [], P, k => by simp [cds, cszs]
  | d :: ds, P, k => by rw [cds, cszs, List.length_append, cd_len d, cds_len ds]
theorem cda_len : ∀ (l : List Nd) (P k E : Nat), (cda l P k E).length = cszs l + 2 * (l.length - 1)
  | [], P, k, E => by simp [cda, cszs]
  | d :: ds, P, k, E => by
    rw [cda, cszs]
    split
    · rename_i h
      obtain rfl : ds = [] := by simpa using h
      rw [cd_len d]; simp [cszs]
    · rename_i h
      have hn : 0 < ds.length := List.length_pos_iff.2 (by simpa using h)
      simp only [List.length_cons, List.length_append, cd_len d, cda_len ds]
      omega
end
/-- An instruction laid again: so many places on, so many loops on. -/
def Inn.by (i : Inn) (b q : Nat) : Inn :=
  if i.op = 1 then { i with x := i.x + b, y := i.y + b } else if i.op = 2 then { i with x := i.x + b } else if i.op = 7 ∨ i.op = 8 then { i with x := i.x + q } else i
theorem copies_by (f : Nat → Nat → List Inn) (z q b c : Nat) (h : ∀ P k, f (P + b) (k + c) = (f P k).map (·.by b c)) : ∀ n P k, copies f z q n (P + b) (k + c) = (copies f z q n P k).map (·.by b c)
  | 0, P, k => by simp [copies]
  | n + 1, P, k => by
    rw [copies, copies, List.map_append, h, ← copies_by f z q b c h n]
    congr 2 <;> omega
theorem rounds_by (f : Nat → Nat → List Inn) (z q E b c : Nat) (h : ∀ P k, f (P + b) (k + c) = (f P k).map (·.by b c)) : ∀ n P k, rounds f z q (E + b) n (P + b) (k + c) = (rounds f z q E n P k).map (·.by b c)
  | 0, P, k => by simp [rounds]
  | n + 1, P, k => by
    rw [rounds, rounds]
    simp only [List.map_cons, List.map_append]
    rw [← rounds_by f z q E b c h n, ← h, show P + b + 2 = P + 2 + b by omega, show k + c + 1 = k + 1 + c by omega, show P + b + z + 3 = P + z + 3 + b by omega, show k + c + q + 1 = k + q + 1 + c by omega]
    simp [ins, Inn.by]
    omega
theorem endless_by (f : Nat → Nat → List Inn) (z b c : Nat) (h : ∀ P k, f (P + b) (k + c) = (f P k).map (·.by b c)) (P k : Nat) : endless f z (P + b) (k + c) = (endless f z P k).map (·.by b c) := by
  unfold endless
  simp only [List.map_cons, List.map_append, List.map_nil]
  rw [← h, show P + b + 2 = P + 2 + b by omega, show k + c + 1 = k + 1 + c by omega]
  simp [ins, Inn.by]
  omega
mutual
theorem cd_by (b c : Nat) : ∀ (d : Nd) (P k : Nat), cd d (P + b) (k + c) = (cd d P k).map (·.by b c)
  | .empty, P, k => by simp [cd]
  | .one s, P, k => by simp [cd, Inn.by]
  | .cat l, P, k => by rw [cd, cd]; exact cds_by b c l P k
  | .alt l, P, k => by rw [cd, cd, ← cda_by b c l P k, show P + b + (cszs l + 2 * (l.length - 1)) = P + (cszs l + 2 * (l.length - 1)) + b by omega]
  | .rep d mn mx, P, k => by
    have hf : ∀ P k, (fun P k => cd d P k) (P + b) (k + c) = ((fun P k => cd d P k) P k).map (·.by b c) := fun P k => cd_by b c d P k
    rw [cd, cd, List.map_append, ← copies_by _ _ _ b c hf]
    congr 1
    split
    · rw [← endless_by _ _ b c hf]; congr 1 <;> omega
    · rw [← rounds_by _ _ _ _ b c hf]; congr 1 <;> omega
  | .group n d, P, k => by rw [cd, cd, show P + b + 1 = P + 1 + b by omega, cd_by b c d]; simp [ins, Inn.by]
  | .back n, P, k => by simp [cd, ins, Inn.by]
  | .start, P, k => by simp [cd, ins, Inn.by]
  | .fin, P, k => by simp [cd, ins, Inn.by]
theorem cds_by (b c : Nat) : ∀ (l : List Nd) (P k : Nat), cds l (P + b) (k + c) = (cds l P k).map (·.by b c)
  | [], P, k => by simp [cds]
  | d :: ds, P, k => by rw [cds, cds, cd_by b c d, show P + b + csz d = P + csz d + b by omega, show k + c + clp d = k + clp d + c by omega, cds_by b c ds, List.map_append]
theorem cda_by (b c : Nat) : ∀ (l : List Nd) (P k E : Nat), cda l (P + b) (k + c) (E + b) = (cda l P k E).map (·.by b c)
  | [], P, k, E => by simp [cda]
  | d :: ds, P, k, E => by
    rw [cda, cda]
    split
    · exact cd_by b c d P k
    · simp only [List.map_cons, List.map_append]
      rw [show P + b + 1 = P + 1 + b by omega, cd_by b c d, show P + b + csz d + 2 = P + csz d + 2 + b by omega, show k + c + clp d = k + clp d + c by omega, cda_by b c ds]
      simp [ins, Inn.by]
end
end Go.Proofs.Ytjjhkagpoicimaa
