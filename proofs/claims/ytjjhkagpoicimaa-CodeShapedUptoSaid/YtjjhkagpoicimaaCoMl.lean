/- Plain mathematics of layer 7: a right tree's numbers; the shape of its whole program. No program is named here. -/
import Derived.Test.YtjjhkagpoicimaaCoMk
import Derived.Test.YtjjhkagpoicimaaCbU
namespace Go.Proofs.Ytjjhkagpoicimaa
set_option linter.unusedVariables false

mutual
theorem right_gr (G : Nat) (b : Bool) (d : Nd) (o : Int) (c : List Int) (x : Int × List Int) (h : nright d o c = some x) (ho : 0 ≤ o) (hc : ∀ n ∈ c, 1 ≤ n ∧ n ≤ o) :
    x.1 = o + ngroups d ∧ (∀ n ∈ x.2, 1 ≤ n ∧ n ≤ x.1) ∧ (x.1 ≤ (G : Int) → b = true ∨ nbacks d = false → grOk G b d) := by
  cases d with
  | empty => unfold nright at h; injection h with h; subst h; exact ⟨by simp [ngroups], hc, fun _ _ => trivial⟩
  | one t => unfold nright at h; injection h with h; subst h; exact ⟨by simp [ngroups], hc, fun _ _ => trivial⟩
  | start => unfold nright at h; injection h with h; subst h; exact ⟨by simp [ngroups], hc, fun _ _ => trivial⟩
  | fin => unfold nright at h; injection h with h; subst h; exact ⟨by simp [ngroups], hc, fun _ _ => trivial⟩
  | back n =>
    unfold nright at h
    split at h
    · rename_i hn
      injection h with h
      subst h
      have := hc n (by simpa using hn)
      refine ⟨by simp [ngroups], hc, fun hG hb => ⟨this.1, by simp only at hG; omega, ?_⟩⟩
      rcases hb with hb | hb
      · exact hb
      · simp [nbacks] at hb
    · cases h
  | cat l =>
    unfold nright at h
    split at h
    · obtain ⟨h1, h2, h3⟩ := right_grs G b l o c x h ho hc
      exact ⟨by rw [ngroups]; exact h1, h2, fun hG hb => by rw [nbacks] at hb; exact h3 hG hb⟩
    · cases h
  | alt l =>
    unfold nright at h
    split at h
    · obtain ⟨h1, h2, h3⟩ := right_grs G b l o c x h ho hc
      exact ⟨by rw [ngroups]; exact h1, h2, fun hG hb => by rw [nbacks] at hb; exact h3 hG hb⟩
    · cases h
  | rep d mn mx =>
    unfold nright at h
    split at h
    · obtain ⟨h1, h2, h3⟩ := right_gr G b d o c x h ho hc
      exact ⟨by rw [ngroups]; exact h1, h2, fun hG hb => by rw [nbacks] at hb; exact h3 hG hb⟩
    · cases h
  | group n d =>
    unfold nright at h
    split at h
    · rename_i hn
      obtain ⟨r, hr, hx⟩ := Option.map_eq_some_iff.1 h
      subst hx
      obtain ⟨h1, h2, h3⟩ := right_gr G b d (o + 1) c r hr (by omega) (fun m hm => by have := hc m hm; omega)
      refine ⟨by rw [ngroups]; simp only; push_cast; omega, ?_, fun hG hb => ⟨by omega, by simp only at hG; omega, h3 hG (by rw [nbacks] at hb; exact hb)⟩⟩
      intro m hm
      rcases List.mem_append.1 hm with hm | hm
      · exact h2 m hm
      · obtain rfl : m = n := by simpa using hm
        simp only
        omega
    · cases h
theorem right_grs (G : Nat) (b : Bool) (l : List Nd) (o : Int) (c : List Int) (x : Int × List Int) (h : nrights l o c = some x) (ho : 0 ≤ o) (hc : ∀ n ∈ c, 1 ≤ n ∧ n ≤ o) :
    x.1 = o + ngroupss l ∧ (∀ n ∈ x.2, 1 ≤ n ∧ n ≤ x.1) ∧ (x.1 ≤ (G : Int) → b = true ∨ nbackss l = false → grOks G b l) := by
  cases l with
  | nil => unfold nrights at h; injection h with h; subst h; exact ⟨by simp [ngroupss], hc, fun _ _ => trivial⟩
  | cons d ds =>
    unfold nrights at h
    cases hy : nright d o c with
    | none => rw [hy] at h; cases h
    | some y =>
      rw [hy] at h
      obtain ⟨h1, h2, h3⟩ := right_gr G b d o c y hy ho hc
      obtain ⟨k1, k2, k3⟩ := right_grs G b ds y.1 y.2 x h (by omega) h2
      refine ⟨by rw [ngroupss]; push_cast; omega, k2, fun hG hb => ?_⟩
      have hb2 : (b = true ∨ nbacks d = false) ∧ (b = true ∨ nbackss ds = false) := by
        rcases hb with hb | hb
        · exact ⟨.inl hb, .inl hb⟩
        · rw [nbackss, Bool.or_eq_false_iff] at hb
          exact ⟨.inr hb.1, .inr hb.2⟩
      exact ⟨h3 (by omega) hb2.1, k3 hG hb2.2⟩
end
/-- A program's shape: each instruction but the last; the loops in order; the last is the one Match. -/
theorem prg_shape (d : Nd) (h : nrightB d = true) : (∀ j (hj : j < (prg d).length), j + 1 < (prg d).length → Sh1 (ngroups d) (nbacks d) (csz d + 1) j (prg d)[j]) ∧ enW (prg d) 0 = some (clp d) ∧ (∀ (hj : csz d + 2 < (prg d).length), (prg d)[csz d + 2] = ins 9 0 0) := by
  unfold nrightB at h
  obtain ⟨x, hx⟩ := Option.isSome_iff_exists.1 h
  obtain ⟨h1, _, h3⟩ := right_gr (ngroups d) (nbacks d) d 0 [] x hx (by omega) (by simp)
  have hg := h3 (by omega) (by cases nbacks d <;> simp)
  have hA : ShA (ngroups d) (nbacks d) (csz d + 1) 0 ([ins 3 0 0] ++ cd d 1 0 ++ [ins 3 1 0]) := by
    refine sh_app (sh_app (sh_cons (sh_save (by omega) (by omega)) sh_nil) rfl (sh_cd d 1 0 hg (by omega))) rfl (sh_cons (sh_save (by omega) (by omega)) sh_nil)
  have hl : ([ins 3 0 0] ++ cd d 1 0 ++ [ins 3 1 0]).length = csz d + 2 := by simp [cd_len]
  refine ⟨fun j hj h1 => ?_, ?_, fun hj => ?_⟩
  · rw [prg_len] at h1
    have e : (prg d)[j]? = ([ins 3 0 0] ++ cd d 1 0 ++ [ins 3 1 0])[j]? := by
      unfold prg
      exact List.getElem?_append_left (by omega)
    have := hA j (prg d)[j] (by rw [← e, List.getElem?_eq_getElem hj])
    rwa [Nat.zero_add] at this
  · unfold prg
    rw [List.append_assoc, List.append_assoc, en_app _ _ _ 0 (by rw [en_skip _ _ _ (by simp [ins]) (by simp [ins]), enW]), en_app _ _ _ _ (en_cd d 1 0), List.cons_append, List.nil_append, en_skip _ _ _ (by simp [ins]) (by simp [ins]), en_skip _ _ _ (by simp [ins]) (by simp [ins]), enW, Nat.zero_add]
  · have : (prg d)[csz d + 2]? = some (ins 9 0 0) := by
      unfold prg
      rw [List.getElem?_append_right (by omega), hl, Nat.sub_self]
      rfl
    rw [List.getElem?_eq_getElem hj] at this
    injection this
end Go.Proofs.Ytjjhkagpoicimaa
