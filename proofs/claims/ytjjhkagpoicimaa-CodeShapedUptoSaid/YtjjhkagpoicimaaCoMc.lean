/- Plain mathematics of layer 7: the rest of a repeat, laid from its part, with the cap on what is laid again. No program is named here. -/
import Derived.Test.YtjjhkagpoicimaaCoMb
namespace Go.Proofs.Ytjjhkagpoicimaa
set_option linter.unusedVariables false

/-- Laid again, if it is not too long yet. -/
def againT (l : List Inn) (P z k q : Nat) (k1 : Nat) : List Inn × Nat := if 3000 < l.length then (l, k1) else again l P z k q k1
def againsT (P z k q : Nat) : Nat → List Inn → Nat → List Inn × Nat
  | 0, l, k1 => (l, k1)
  | n + 1, l, k1 => againsT P z k q n (againT l P z k q k1).1 (againT l P z k q k1).2
def agroundsT (P z k q E : Nat) : Nat → List Inn → Nat → List Inn × Nat
  | 0, l, k1 => (l, k1)
  | n + 1, l, k1 =>
    let l1 := l ++ [ins 1 (l.length + 1 : Nat) E, ins 7 k1 0]
    let r := againT l1 P z k q (k1 + 1)
    agroundsT P z k q E n (r.1 ++ [ins 8 k1 0]) r.2
theorem again_le (l : List Inn) (P z k q k1 : Nat) : l.length ≤ (again l P z k q k1).1.length := by simp [again]
theorem againT_le (l : List Inn) (P z k q k1 : Nat) : l.length ≤ (againT l P z k q k1).1.length := by
  unfold againT; split
  · exact Nat.le_refl _
  · exact again_le ..
theorem agains_le (P z k q : Nat) : ∀ (n : Nat) (l : List Inn) (k1 : Nat), l.length ≤ (agains P z k q n l k1).1.length
  | 0, l, k1 => Nat.le_refl _
  | n + 1, l, k1 => Nat.le_trans (again_le ..) (agains_le P z k q n _ _)
theorem againsT_le (P z k q : Nat) : ∀ (n : Nat) (l : List Inn) (k1 : Nat), l.length ≤ (againsT P z k q n l k1).1.length
  | 0, l, k1 => Nat.le_refl _
  | n + 1, l, k1 => Nat.le_trans (againT_le ..) (againsT_le P z k q n _ _)
theorem agrounds_le (P z k q E : Nat) : ∀ (n : Nat) (l : List Inn) (k1 : Nat), l.length ≤ (agrounds P z k q E n l k1).1.length
  | 0, l, k1 => Nat.le_refl _
  | n + 1, l, k1 => by
    rw [agrounds]
    refine Nat.le_trans ?_ (agrounds_le P z k q E n _ _)
    have := again_le (l ++ [ins 1 (l.length + 1 : Nat) E, ins 7 k1 0]) P z k q (k1 + 1)
    simp at this ⊢; omega
theorem agroundsT_le (P z k q E : Nat) : ∀ (n : Nat) (l : List Inn) (k1 : Nat), l.length ≤ (agroundsT P z k q E n l k1).1.length
  | 0, l, k1 => Nat.le_refl _
  | n + 1, l, k1 => by
    rw [agroundsT]
    refine Nat.le_trans ?_ (agroundsT_le P z k q E n _ _)
    have := againT_le (l ++ [ins 1 (l.length + 1 : Nat) E, ins 7 k1 0]) P z k q (k1 + 1)
    simp at this ⊢; omega
theorem againsT_eq (P z k q : Nat) : ∀ (n : Nat) (l : List Inn) (k1 : Nat),
    againsT P z k q n l k1 = agains P z k q n l k1 ∨ (3000 < (againsT P z k q n l k1).1.length ∧ 3000 < (agains P z k q n l k1).1.length)
  | 0, l, k1 => .inl rfl
  | n + 1, l, k1 => by
    by_cases h : 3000 < l.length
    · exact .inr ⟨Nat.lt_of_lt_of_le h (againsT_le ..), Nat.lt_of_lt_of_le h (agains_le ..)⟩
    · rw [againsT, agains, againT, if_neg h]
      exact againsT_eq P z k q n _ _
theorem agroundsT_eq (P z k q E : Nat) : ∀ (n : Nat) (l : List Inn) (k1 : Nat),
    agroundsT P z k q E n l k1 = agrounds P z k q E n l k1 ∨ (3000 < (agroundsT P z k q E n l k1).1.length ∧ 3000 < (agrounds P z k q E n l k1).1.length)
  | 0, l, k1 => .inl rfl
  | n + 1, l, k1 => by
    rw [agroundsT, agrounds]
    simp only [againT]
    split
    · rename_i h
      refine .inr ⟨Nat.lt_of_lt_of_le ?_ (agroundsT_le ..), Nat.lt_of_lt_of_le ?_ (agrounds_le ..)⟩
      · simp at h ⊢; omega
      · have := again_le (l ++ [ins 1 (l.length + 1 : Nat) E, ins 7 k1 0]) P z k q (k1 + 1)
        simp at h this ⊢; omega
    · exact agroundsT_eq P z k q E n _ _
/-- The rest of a Rep: what stands, with its part at the end; the part's place, size, first loop and loops; the loops. -/
def repT (mn mx : Int) (P z k q : Nat) (l : List Inn) (k1 : Nat) : List Inn × Nat :=
  let R := if mx = -1 then 1 else (mx - mn).toNat
  let J := if mx = -1 then 1 else 0
  if mn = 0 then
    let E := P - 2 + R * (z + 3) + J
    let r := agroundsT P z k q E (R - 1) (upd l (P - 2) (fun i => { i with y := E }) ++ [ins 8 (k - 1 : Nat) 0]) k1
    (r.1 ++ List.replicate J (ins 2 (P - 2 : Nat) 0), r.2)
  else
    let F := P + mn.toNat * z
    let E := F + R * (z + 3) + J
    let r := againsT P z k q (mn.toNat - 1) l k1
    let s := agroundsT P z k q E R r.1 r.2
    (s.1 ++ List.replicate J (ins 2 F 0), s.2)
/-- What a Rep's rounds are, the first one's place told. -/
theorem rounds_all (d : Nd) (mn mx : Int) (F k : Nat) : (if mx = -1 then endless (fun P k => cd d P k) (csz d) F k else rounds (fun P k => cd d P k) (csz d) (clp d) (F + (mx - mn).toNat * (csz d + 3)) (mx - mn).toNat F k) =
    rounds (fun P k => cd d P k) (csz d) (clp d) (F + (if mx = -1 then 1 else (mx - mn).toNat) * (csz d + 3) + (if mx = -1 then 1 else 0)) (if mx = -1 then 1 else (mx - mn).toNat) F k ++ List.replicate (if mx = -1 then 1 else 0) (ins 2 F 0) := by
  split
  · simp [endless, rounds, Nat.add_assoc]
  · simp
theorem corep_some (d : Nd) (mn mx : Int) (h0 : 0 < mn) (l : List Inn) (k : Nat) :
    repT mn mx l.length (csz d) k (clp d) (l ++ cd d l.length k) (k + clp d) = (l ++ cd (.rep d mn mx) l.length k, k + clp (.rep d mn mx)) ∨
      (3000 < (repT mn mx l.length (csz d) k (clp d) (l ++ cd d l.length k) (k + clp d)).1.length ∧ 3000 < l.length + csz (.rep d mn mx)) := by
  obtain ⟨m, rfl⟩ : ∃ m : Nat, mn = m + 1 := ⟨(mn - 1).toNat, by omega⟩
  have hm : ((m : Int) + 1).toNat = m + 1 := by omega
  have hlen := cd_len (.rep d (m + 1) mx) l.length k
  rw [cd, rounds_all, hm] at hlen
  have hh : ((l ++ cd d l.length k).drop l.length).take (csz d) = cd d l.length k := by rw [List.drop_left, List.take_of_length_le (by rw [cd_len]; exact Nat.le_refl _)]
  have ha := agains_eq d l.length k m (l ++ cd d l.length k) (k + clp d) (by simp [cd_len]) (by omega) hh
  have hlp : clp (.rep d ((m : Int) + 1) mx) = (m + 1) * clp d + (if mx = -1 then 1 else (mx - (m + 1)).toNat) * (clp d + 1) := by rw [clp, hm]; split <;> simp
  rw [cd, rounds_all, hm, hlp]
  unfold repT
  rw [if_neg (by omega), hm, Nat.add_sub_cancel]
  simp only
  generalize (if mx = -1 then 1 else (mx - (m + 1)).toNat) = R at *
  generalize (if mx = -1 then 1 else 0) = J at *
  generalize hE : l.length + (m + 1) * csz d + R * (csz d + 3) + J = E at *
  have hcp : l ++ cd d l.length k ++ copies (fun P k => cd d P k) (csz d) (clp d) m (l ++ cd d l.length k).length (k + clp d) = l ++ copies (fun P k => cd d P k) (csz d) (clp d) (m + 1) l.length k := by rw [copies]; simp [cd_len]
  rw [hcp] at ha
  have hsz : (copies (fun P k => cd d P k) (csz d) (clp d) (m + 1) l.length k).length = (m + 1) * csz d := copies_len _ _ _ (fun P k => cd_len d P k) _ _ _
  have hk : k + clp d + m * clp d = k + (m + 1) * clp d := by rw [Nat.succ_mul]; omega
  rw [hk] at ha
  have hr := agrounds_eq d l.length k E R (l ++ copies (fun P k => cd d P k) (csz d) (clp d) (m + 1) l.length k) (k + (m + 1) * clp d) (by simp only [List.length_append, hsz, Nat.succ_mul]; omega) (by omega) (by
    rw [← hcp]; exact held_app _ _ _ _ _ hh (by simp [cd_len]))
  simp only [List.length_append, hsz] at hr
  have hlen2 : (cd (.rep d (m + 1) mx) l.length k).length = csz (.rep d (m + 1) mx) := cd_len _ _ _
  rcases againsT_eq l.length (csz d) k (clp d) m (l ++ cd d l.length k) (k + clp d) with h1 | ⟨h1, h2⟩
  · rw [h1, ha]
    simp only
    rcases agroundsT_eq l.length (csz d) k (clp d) E R (l ++ copies (fun P k => cd d P k) (csz d) (clp d) (m + 1) l.length k) (k + (m + 1) * clp d) with h3 | ⟨h3, h4⟩
    · left
      rw [h3, hr]
      simp [Nat.add_assoc]
    · right
      rw [hr] at h4
      simp only [List.length_append] at h3 h4 hlen ⊢
      omega
  · right
    rw [ha] at h2
    have := agroundsT_le l.length (csz d) k (clp d) E R (againsT l.length (csz d) k (clp d) m (l ++ cd d l.length k) (k + clp d)).1 (againsT l.length (csz d) k (clp d) m (l ++ cd d l.length k) (k + clp d)).2
    simp only [List.length_append] at h2 hlen ⊢
    omega
/-- The same of a Rep that need not be: its Split stands, without its way past, and its part within the first round. -/
theorem corep_none (d : Nd) (mx : Int) (h0 : mx ≠ 0) (h1 : -1 ≤ mx) (l : List Inn) (k : Nat) :
    repT 0 mx (l.length + 2) (csz d) (k + 1) (clp d) (l ++ [ins 1 (l.length + 1 : Nat) 0, ins 7 k 0] ++ cd d (l.length + 2) (k + 1)) (k + 1 + clp d) = (l ++ cd (.rep d 0 mx) l.length k, k + clp (.rep d 0 mx)) ∨
      (3000 < (repT 0 mx (l.length + 2) (csz d) (k + 1) (clp d) (l ++ [ins 1 (l.length + 1 : Nat) 0, ins 7 k 0] ++ cd d (l.length + 2) (k + 1)) (k + 1 + clp d)).1.length ∧ 3000 < l.length + csz (.rep d 0 mx)) := by
  obtain ⟨m, hm⟩ : ∃ m : Nat, (if mx = -1 then 1 else (mx - 0).toNat) = m + 1 := by
    split
    · exact ⟨0, rfl⟩
    · exact ⟨(mx - 1).toNat, by omega⟩
  have hlen := cd_len (.rep d 0 mx) l.length k
  rw [cd, rounds_all, show (0 : Int).toNat = 0 from rfl, copies, hm] at hlen
  have hlp : clp (.rep d 0 mx) = (m + 1) * (clp d + 1) := by
    rw [clp, show (0 : Int).toNat = 0 from rfl, Nat.zero_mul, Nat.zero_add, ← hm]; split <;> simp
  rw [cd, rounds_all, hlp, show (0 : Int).toNat = 0 from rfl, copies, hm, Nat.zero_mul, Nat.zero_mul, Nat.add_zero, Nat.add_zero, List.nil_append]
  rw [Nat.zero_mul, Nat.zero_mul, Nat.add_zero, Nat.add_zero, List.nil_append] at hlen
  unfold repT
  rw [if_pos rfl, hm, Nat.add_sub_cancel, Nat.add_sub_cancel, Nat.add_sub_cancel]
  simp only
  generalize (if mx = -1 then 1 else 0) = J at *
  generalize hE : l.length + (m + 1) * (csz d + 3) + J = E at *
  have hup : upd (l ++ [ins 1 (l.length + 1 : Nat) 0, ins 7 k 0] ++ cd d (l.length + 2) (k + 1)) l.length (fun i => { i with y := (E : Int) }) = l ++ ins 1 (l.length + 1 : Nat) E :: ins 7 k 0 :: cd d (l.length + 2) (k + 1) := by
    rw [show l ++ [ins 1 (l.length + 1 : Nat) 0, ins 7 k 0] ++ cd d (l.length + 2) (k + 1) = l ++ ins 1 (l.length + 1 : Nat) 0 :: (ins 7 k 0 :: cd d (l.length + 2) (k + 1)) by simp, upd_mid l _ _ _ _ rfl]
    rfl
  rw [hup]
  generalize hL : l ++ ins 1 (l.length + 1 : Nat) E :: ins 7 k 0 :: cd d (l.length + 2) (k + 1) ++ [ins 8 k 0] = L
  have hLl : L.length = l.length + csz d + 3 := by rw [← hL]; simp [cd_len]; omega
  have hh : (L.drop (l.length + 2)).take (csz d) = cd d (l.length + 2) (k + 1) := by
    rw [← hL, show l ++ ins 1 (l.length + 1 : Nat) E :: ins 7 k 0 :: cd d (l.length + 2) (k + 1) ++ [ins 8 k 0] = (l ++ [ins 1 (l.length + 1 : Nat) E, ins 7 k 0]) ++ (cd d (l.length + 2) (k + 1) ++ [ins 8 k 0]) by simp]
    rw [show l.length + 2 = (l ++ [ins 1 (l.length + 1 : Nat) (E : Int), ins 7 k 0]).length by simp, List.drop_left, List.take_left' (by rw [cd_len])]
  have hr := agrounds_eq d (l.length + 2) (k + 1) E m L (k + 1 + clp d) (by omega) (by omega) hh
  rw [hLl] at hr
  have hroll : L ++ rounds (fun P k => cd d P k) (csz d) (clp d) E m (l.length + csz d + 3) (k + 1 + clp d) = l ++ rounds (fun P k => cd d P k) (csz d) (clp d) E (m + 1) l.length k := by
    rw [rounds, ← hL, show k + clp d + 1 = k + 1 + clp d by omega]
    simp
  rw [hroll] at hr
  rcases agroundsT_eq (l.length + 2) (csz d) (k + 1) (clp d) E m L (k + 1 + clp d) with h3 | ⟨h3, h4⟩
  · left
    rw [h3, hr]
    simp [Nat.succ_mul]
    omega
  · right
    rw [hr] at h4
    simp only [List.length_append, Nat.add_zero] at h3 h4 hlen ⊢
    omega
end Go.Proofs.Ytjjhkagpoicimaa
