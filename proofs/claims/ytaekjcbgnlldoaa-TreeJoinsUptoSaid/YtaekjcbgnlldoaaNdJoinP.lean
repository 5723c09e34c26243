/- What joined, and chosen among, parts have together. No program is named here. -/
import Derived.Test.YtaekjcbgnlldoaaNdJoinM
import Derived.Test.YtaekjcbgnlldoaaNdRightM
namespace Go.Proofs.Ytaekjcbgnlldoaa

def mkCat : List Nd → Nd
  | [] => .empty
  | [d] => d
  | ds => .cat ds
def mkAlt : List Nd → Nd
  | [] => .empty
  | [d] => d
  | ds => .alt ds
theorem njoin_mk (l : List Nd) : njoin l = mkCat (jflat l) := by
  unfold njoin
  generalize jflat l = m
  match m with
  | [] => rfl
  | [d] => rfl
  | d :: e :: r => rfl
theorem nchoose_mk (l : List Nd) : nchoose l = mkAlt (cflat l) := by
  unfold nchoose
  generalize cflat l = m
  match m with
  | [] => rfl
  | [d] => rfl
  | d :: e :: r => rfl
theorem ngroups_join (l : List Nd) : ngroups (njoin l) = ngroupss (jflat l) := by
  unfold njoin
  split
  · rename_i h; rw [h]; rfl
  · rename_i h; rw [h]; simp [ngroupss]
  · rfl
theorem ngroups_choose (l : List Nd) : ngroups (nchoose l) = ngroupss (cflat l) := by
  unfold nchoose
  split
  · rename_i h; rw [h]; rfl
  · rename_i h; rw [h]; simp [ngroupss]
  · rfl
theorem ndeep_join (l : List Nd) : ndeep (njoin l) = ndeeps (jflat l) := by
  unfold njoin
  split
  · rename_i h; rw [h]; rfl
  · rename_i h; rw [h]; simp [ndeeps]
  · rfl
theorem ndeep_choose (l : List Nd) : ndeep (nchoose l) = ndeeps (cflat l) := by
  unfold nchoose
  split
  · rename_i h; rw [h]; rfl
  · rename_i h; rw [h]; simp [ndeeps]
  · rfl
theorem nbacks_join (l : List Nd) : nbacks (njoin l) = nbackss (jflat l) := by
  unfold njoin
  split
  · rename_i h; rw [h]; rfl
  · rename_i h; rw [h]; simp [nbackss]
  · rfl
theorem nbacks_choose (l : List Nd) : nbacks (nchoose l) = nbackss (cflat l) := by
  unfold nchoose
  split
  · rename_i h; rw [h]; rfl
  · rename_i h; rw [h]; simp [nbackss]
  · rfl
theorem jpart_groups (d : Nd) : ngroupss (jpart d) = ngroups d := by cases d <;> simp [jpart, ngroups, ngroupss]
theorem cpart_groups (d : Nd) : ngroupss (cpart d) = ngroups d := by cases d <;> simp [cpart, ngroups, ngroupss]
theorem jpart_deep (d : Nd) : ndeeps (jpart d) = ndeep d := by cases d <;> simp [jpart, ndeep, ndeeps]
theorem cpart_deep (d : Nd) : ndeeps (cpart d) = ndeep d := by cases d <;> simp [cpart, ndeep, ndeeps]
theorem jpart_backs (d : Nd) : nbackss (jpart d) = nbacks d := by cases d <;> simp [jpart, nbacks, nbackss]
theorem cpart_backs (d : Nd) : nbackss (cpart d) = nbacks d := by cases d <;> simp [cpart, nbacks, nbackss]
theorem jflat_two (d e : Nd) : jflat [d, e] = jpart d ++ jpart e := by simp [jflat]
theorem cflat_two (d e : Nd) : cflat [d, e] = cpart d ++ cpart e := by simp [cflat]
theorem join_two (d e : Nd) : ngroups (njoin [d, e]) = ngroups d + ngroups e ∧ nbacks (njoin [d, e]) = (nbacks d || nbacks e) ∧ ndeep (njoin [d, e]) = max (ndeep d) (ndeep e) := by
  rw [ngroups_join, nbacks_join, ndeep_join, jflat_two, ngroupss_append, nbackss_append, ndeeps_append, jpart_groups, jpart_groups, jpart_backs, jpart_backs, jpart_deep, jpart_deep]
  exact ⟨rfl, rfl, rfl⟩
theorem choose_two (d e : Nd) : ngroups (nchoose [d, e]) = ngroups d + ngroups e ∧ nbacks (nchoose [d, e]) = (nbacks d || nbacks e) ∧ ndeep (nchoose [d, e]) = max (ndeep d) (ndeep e) := by
  rw [ngroups_choose, nbacks_choose, ndeep_choose, cflat_two, ngroupss_append, nbackss_append, ndeeps_append, cpart_groups, cpart_groups, cpart_backs, cpart_backs, cpart_deep, cpart_deep]
  exact ⟨rfl, rfl, rfl⟩
theorem nsizes_jpart (d : Nd) : nsizes (jpart d) ≤ nsize d := by cases d <;> simp [jpart, nsize, nsizes]
theorem nsizes_cpart (d : Nd) : nsizes (cpart d) ≤ nsize d := by cases d <;> simp [cpart, nsize, nsizes]
theorem nsize_join (d e : Nd) : nsize (njoin [d, e]) ≤ 1 + (nsize d + nsize e) := by
  have h : nsize (njoin [d, e]) ≤ 1 + nsizes (jflat [d, e]) := by
    unfold njoin
    split
    · simp [nsize]
    · rename_i h; rw [h]; simp [nsizes]
    · simp [nsize]
  have h1 := nsizes_jpart d
  have h2 := nsizes_jpart e
  rw [jflat_two, nsizes_append] at h
  omega
theorem nsize_choose (d e : Nd) : nsize (nchoose [d, e]) ≤ 1 + (nsize d + nsize e) := by
  have h : nsize (nchoose [d, e]) ≤ 1 + nsizes (cflat [d, e]) := by
    unfold nchoose
    split
    · simp [nsize]
    · rename_i h; rw [h]; simp [nsizes]
    · simp [nsize]
  have h1 := nsizes_cpart d
  have h2 := nsizes_cpart e
  rw [cflat_two, nsizes_append] at h
  omega
mutual
theorem nsame_refl : ∀ d : Nd, nsame d d = true
  | .cat l => nsames_refl l
  | .alt l => nsames_refl l
  | .rep d a b => by simp [nsame, nsame_refl d]
  | .group n d => by simp [nsame, nsame_refl d]
  | .one s => by simp [nsame]
  | .back n => by simp [nsame]
  | .empty => rfl
  | .start => rfl
  | .fin => rfl
theorem nsames_refl : ∀ l : List Nd, nsames l l = true
  | [] => rfl
  | d :: ds => by rw [nsames, nsame_refl d, nsames_refl ds]; rfl
end
/-- What is right has parts that may stand in a Cat, in an Alt. -/
theorem right_jpart {d : Nd} (h : nrightB d = true) : ∀ x ∈ jpart d, jpart x = [x] := by
  intro x hx
  have hs : ∀ y, inCat y = true → jpart y = [y] := fun y hy => by cases y <;> first | rfl | cases hy
  cases d with
  | cat l =>
    have h2 : (nright (.cat l) 0 []).isSome = true := h
    rw [nright] at h2
    split at h2
    · rename_i hc
      rw [Bool.and_eq_true] at hc
      exact hs x (List.all_eq_true.1 hc.2 x hx)
    · cases h2
  | empty => cases hx
  | _ => obtain rfl := List.mem_singleton.1 hx; rfl
theorem right_cpart {d : Nd} (h : nrightB d = true) : ∀ x ∈ cpart d, cpart x = [x] := by
  intro x hx
  have hs : ∀ y, inAlt y = true → cpart y = [y] := fun y hy => by cases y <;> first | rfl | cases hy
  cases d with
  | alt l =>
    have h2 : (nright (.alt l) 0 []).isSome = true := h
    rw [nright] at h2
    split at h2
    · rename_i hc
      rw [Bool.and_eq_true] at hc
      exact hs x (List.all_eq_true.1 hc.2 x hx)
    · cases h2
  | _ => obtain rfl := List.mem_singleton.1 hx; rfl
theorem join_eq {d e : Nd} (h : nrightB d = true) (k : nrightB e = true) : njoin [njoin [d, e]] = njoin [d, e] := by
  have hm : ∀ x ∈ jflat [d, e], jpart x = [x] := by
    intro x hx
    rw [jflat_two] at hx
    exact (List.mem_append.1 hx).elim (right_jpart h x) (right_jpart k x)
  have hf : ∀ y, jflat [y] = jpart y := fun y => by simp [jflat]
  generalize hl : jflat [d, e] = l at hm
  rw [njoin_mk, njoin_mk, hf, hl]
  clear hl
  match l, hm with
  | [], _ => rfl
  | [x], hm =>
    have hx := hm x (List.mem_singleton.2 rfl)
    rw [show jpart (mkCat [x]) = [x] from hx]
  | x :: y :: r, _ => rfl
theorem join_again {d e : Nd} (h : nrightB d = true) (k : nrightB e = true) : nsame (njoin [njoin [d, e]]) (njoin [d, e]) = true := by
  rw [join_eq h k]
  exact nsame_refl _
theorem choose_eq {d e : Nd} (h : nrightB d = true) (k : nrightB e = true) : nchoose [nchoose [d, e]] = nchoose [d, e] := by
  have hm : ∀ x ∈ cflat [d, e], cpart x = [x] := by
    intro x hx
    rw [cflat_two] at hx
    exact (List.mem_append.1 hx).elim (right_cpart h x) (right_cpart k x)
  have hf : ∀ y, cflat [y] = cpart y := fun y => by simp [cflat]
  generalize hl : cflat [d, e] = l at hm
  rw [nchoose_mk, nchoose_mk, hf, hl]
  clear hl
  match l, hm with
  | [], _ => rfl
  | [x], hm =>
    have hx := hm x (List.mem_singleton.2 rfl)
    rw [show cpart (mkAlt [x]) = [x] from hx]
  | x :: y :: r, _ => rfl
theorem choose_again {d e : Nd} (h : nrightB d = true) (k : nrightB e = true) : nsame (nchoose [nchoose [d, e]]) (nchoose [d, e]) = true := by
  rw [choose_eq h k]
  exact nsame_refl _
end Go.Proofs.Ytaekjcbgnlldoaa
