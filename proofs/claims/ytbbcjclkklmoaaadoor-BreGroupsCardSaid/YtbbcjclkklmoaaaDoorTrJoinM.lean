/- The document's parts joined, and chosen among. No program is named here. -/
import Derived.Test.YtbbcjclkklmoaaaDoorMaA
namespace Go.Proofs.YtbbcjclkklmoaaaDoor

def tjpart (x : Tr) : List Tr := if x.kind = 0 then [] else if x.kind = 2 then x.parts else [x]
def tcpart (x : Tr) : List Tr := if x.kind = 3 then x.parts else [x]
def mkT (k : Int) (l : List Tr) : Tr := match l with
  | [] => tz
  | [x] => x
  | xs => .mk k oz 0 0 0 xs
def tjoin (l : List Tr) : Tr := mkT 2 (l.flatMap tjpart)
def tchoose (l : List Tr) : Tr := mkT 3 (l.flatMap tcpart)
theorem tflat_take (f : Tr → List Tr) (l : List Tr) (k : Nat) (h : k < l.length) : (l.take (k + 1)).flatMap f = (l.take k).flatMap f ++ f l[k] := by
  rw [List.take_succ_eq_append_getElem h, List.flatMap_append]
  simp
theorem tflat_le (f : Tr → List Tr) (l : List Tr) (k : Nat) : ((l.take k).flatMap f).length ≤ (l.flatMap f).length := by
  have h := congrArg List.length (congrArg (List.flatMap f) (List.take_append_drop k l))
  rw [List.flatMap_append, List.length_append] at h
  omega
theorem tparts_talls (x : Tr) : talls x.parts ≤ tall x := by
  obtain ⟨k, s, mn, mx, num, ps⟩ := x
  rw [tall]
  show talls ps ≤ _
  omega
theorem talls_jpart (x : Tr) : talls (tjpart x) ≤ tall x := by
  unfold tjpart
  split
  · simp [talls]
  · split
    · exact tparts_talls x
    · simp [talls]
theorem talls_cpart (x : Tr) : talls (tcpart x) ≤ tall x := by
  unfold tcpart
  split
  · exact tparts_talls x
  · simp [talls]
theorem talls_flat (f : Tr → List Tr) (hf : ∀ x, talls (f x) ≤ tall x) (l : List Tr) : talls (l.flatMap f) ≤ talls l := by
  induction l with
  | nil => simp [talls]
  | cons x xs ih => rw [List.flatMap_cons, talls_append, talls]; have := hf x; omega
theorem tjoin_len (l : List Tr) : (l.flatMap tjpart).length ≤ talls l := Nat.le_trans (talls_length _) (talls_flat _ talls_jpart l)
theorem tchoose_len (l : List Tr) : (l.flatMap tcpart).length ≤ talls l := Nat.le_trans (talls_length _) (talls_flat _ talls_cpart l)
theorem tjoin_tall (l : List Tr) : tall (tjoin l) ≤ 1 + talls l := by
  have h := talls_flat _ talls_jpart l
  unfold tjoin mkT
  split
  · simp [tz, tall, talls]
  · rename_i x e; rw [e] at h; simp [talls] at h; omega
  · rw [tall]; omega
theorem tchoose_tall (l : List Tr) : tall (tchoose l) ≤ 1 + talls l := by
  have h := talls_flat _ talls_cpart l
  unfold tchoose mkT
  split
  · simp [tz, tall, talls]
  · rename_i x e; rw [e] at h; simp [talls] at h; omega
  · rw [tall]; omega
theorem tknowns_append (a b : List Tr) : tknowns (a ++ b) = (tknowns a && tknowns b) := by
  induction a with
  | nil => rfl
  | cons x xs ih => rw [List.cons_append, tknowns, tknowns, ih, Bool.and_assoc]
theorem known_parts (t : Tr) (h : tknown t = true) : tknowns t.parts = true := by
  obtain ⟨k, s, mn, mx, num, ps⟩ := t
  rw [tknown] at h
  simp at h
  exact h.2
theorem known_jpart (x : Tr) (h : tknown x = true) : tknowns (tjpart x) = true := by
  unfold tjpart
  split
  · rfl
  · split
    · exact known_parts x h
    · simp [tknowns, h]
theorem known_cpart (x : Tr) (h : tknown x = true) : tknowns (tcpart x) = true := by
  unfold tcpart
  split
  · exact known_parts x h
  · simp [tknowns, h]
theorem known_flat (f : Tr → List Tr) (hf : ∀ x, tknown x = true → tknowns (f x) = true) (l : List Tr) (h : tknowns l = true) : tknowns (l.flatMap f) = true := by
  induction l with
  | nil => rfl
  | cons x xs ih =>
    rw [tknowns] at h
    simp at h
    rw [List.flatMap_cons, tknowns_append, hf x h.1, ih h.2]
    rfl
theorem known_tjoin (l : List Tr) (h : tknowns l = true) : tknown (tjoin l) = true := by
  have h2 := known_flat _ known_jpart l h
  unfold tjoin mkT
  split
  · rfl
  · rename_i x e; rw [e, tknowns] at h2; simp at h2; exact h2.1
  · rw [tknown, h2]; rfl
theorem known_tchoose (l : List Tr) (h : tknowns l = true) : tknown (tchoose l) = true := by
  have h2 := known_flat _ known_cpart l h
  unfold tchoose mkT
  split
  · rfl
  · rename_i x e; rw [e, tknowns] at h2; simp at h2; exact h2.1
  · rw [tknown, h2]; rfl
theorem canon_jpart (x : Tr) (h : tknown x = true) : (tjpart x).map canon = jpart (canon x) := by
  rcases canon_cases x h with ⟨k, e⟩ | ⟨k, _, e⟩ | ⟨k, _, e⟩ | ⟨k, _, e⟩ | ⟨k, _, _, _, e⟩ | ⟨k, _, _, e⟩ | ⟨k, _, e⟩ | ⟨k, e⟩ | ⟨k, e⟩
  · rw [e]; unfold tjpart; rw [if_pos k]; rfl
  · unfold tjpart; rw [if_neg (by omega), if_neg (by omega)]; rw [e]; show [canon x] = _; rw [e]; rfl
  · have hk : tkids x = x.parts := by unfold tkids; rw [if_pos (.inl k)]
    have h2 := canon_2 x k
    unfold tjpart; rw [if_neg (by omega), if_pos k, h2, hk]; rfl
  all_goals (unfold tjpart; rw [if_neg (by omega), if_neg (by omega)]; rw [e]; show [canon x] = _; rw [e]; rfl)
theorem canon_cpart (x : Tr) (h : tknown x = true) : (tcpart x).map canon = cpart (canon x) := by
  rcases canon_cases x h with ⟨k, e⟩ | ⟨k, _, e⟩ | ⟨k, _, e⟩ | ⟨k, _, e⟩ | ⟨k, _, _, _, e⟩ | ⟨k, _, _, e⟩ | ⟨k, _, e⟩ | ⟨k, e⟩ | ⟨k, e⟩
  case inr.inr.inr.inl =>
    have hk : tkids x = x.parts := by unfold tkids; rw [if_pos (.inr k)]
    have h2 := canon_3 x k
    unfold tcpart; rw [if_pos k, h2, hk]; rfl
  all_goals (unfold tcpart; rw [if_neg (by omega)]; rw [e]; show [canon x] = _; rw [e]; rfl)
theorem canon_flat (f : Tr → List Tr) (g : Nd → List Nd) (hf : ∀ x, tknown x = true → (f x).map canon = g (canon x)) (l : List Tr) (h : tknowns l = true) : (l.flatMap f).map canon = (l.map canon).flatMap g := by
  induction l with
  | nil => rfl
  | cons x xs ih =>
    rw [tknowns] at h
    simp at h
    rw [List.flatMap_cons, List.map_append, hf x h.1, ih h.2, List.map_cons, List.flatMap_cons]
theorem canon_tjoin (l : List Tr) (h : tknowns l = true) : canon (tjoin l) = njoin (l.map canon) := by
  have h2 := canon_flat _ _ canon_jpart l h
  unfold tjoin mkT njoin jflat
  rw [← h2]
  rcases l.flatMap tjpart with _ | ⟨x, _ | ⟨y, ys⟩⟩
  · rfl
  · rfl
  · exact congrArg Nd.cat (canons_map _)
theorem canon_tchoose (l : List Tr) (h : tknowns l = true) : canon (tchoose l) = nchoose (l.map canon) := by
  have h2 := canon_flat _ _ canon_cpart l h
  unfold tchoose mkT nchoose cflat
  rw [← h2]
  rcases l.flatMap tcpart with _ | ⟨x, _ | ⟨y, ys⟩⟩
  · rfl
  · rfl
  · exact congrArg Nd.alt (canons_map _)
end Go.Proofs.YtbbcjclkklmoaaaDoor
