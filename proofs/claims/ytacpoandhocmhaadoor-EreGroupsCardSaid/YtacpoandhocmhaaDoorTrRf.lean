/- TrJoinM: The document's parts joined, and chosen among. No program is named here.
   TrRow: The document's nodes in memory, with the blocks that they go through; rows of them that the call makes itself.
   TrJoin: The document's Join and Choose.
   TrRef: Ref: the program's node as the document's; Is.
   TrIs: Is: whether the program's node is the document's. -/
import Derived.Test.YtacpoandhocmhaaDoorMaA
import Derived.Test.YtacpoandhocmhaaDoorTrWk
import Derived.Test.YtacpoandhocmhaaDoorNdAo
import Derived.Test.YtacpoandhocmhaaDoorNdFits
import Derived.Test.YtacpoandhocmhaaDoorTrSameB
import Derived.Deep.RegionHeld3
import Derived.Test.YtacpoandhocmhaaDoorNdPrS
namespace Go.Proofs.YtacpoandhocmhaaDoor

def tjpart (x : Tr) : List Tr := if x.kind = 0 then [] else if x.kind = 2 then x.parts else [x]
def tcpart (x : Tr) : List Tr := if x.kind = 3 then x.parts else [x]
def mkT (k : Int) (l : List Tr) : Tr := match l with
  | [] => tz
  | [x] => x
  | xs => .mk k oz 0 0 0 xs
def tjoin (l : List Tr) : Tr := mkT 2 (l.flatMap tjpart)
def tchoose (l : List Tr) : Tr := mkT 3 (l.flatMap tcpart)
theorem tflat_take (f : Tr → List Tr) (l : List Tr) (k : Nat) (h : k < l.length) : (l.take (k + 1)).flatMap f = (l.take k).flatMap f ++ f l[k] := by
  rw [List.take_succ_eq_append_getElem h, List.flatMap_append]
  simp
theorem tflat_le (f : Tr → List Tr) (l : List Tr) (k : Nat) : ((l.take k).flatMap f).length ≤ (l.flatMap f).length := by
  have h := congrArg List.length (congrArg (List.flatMap f) (List.take_append_drop k l))
  rw [List.flatMap_append, List.length_append] at h
  omega
theorem tparts_talls (x : Tr) : talls x.parts ≤ tall x := by
  obtain ⟨k, s, mn, mx, num, ps⟩ := x
  rw [tall]
  show talls ps ≤ _
  omega
theorem talls_jpart (x : Tr) : talls (tjpart x) ≤ tall x := by
  unfold tjpart
  split
  · simp [talls]
  · split
    · exact tparts_talls x
    · simp [talls]
theorem talls_cpart (x : Tr) : talls (tcpart x) ≤ tall x := by
  unfold tcpart
  split
  · exact tparts_talls x
  · simp [talls]
theorem talls_flat (f : Tr → List Tr) (hf : ∀ x, talls (f x) ≤ tall x) (l : List Tr) : talls (l.flatMap f) ≤ talls l := by
  induction l with
  | nil => simp [talls]
  | cons x xs ih => rw [List.flatMap_cons, talls_append, talls]; have := hf x; omega
theorem tjoin_len (l : List Tr) : (l.flatMap tjpart).length ≤ talls l := Nat.le_trans (talls_length _) (talls_flat _ talls_jpart l)
theorem tchoose_len (l : List Tr) : (l.flatMap tcpart).length ≤ talls l := Nat.le_trans (talls_length _) (talls_flat _ talls_cpart l)
theorem tjoin_tall (l : List Tr) : tall (tjoin l) ≤ 1 + talls l := by
  have h := talls_flat _ talls_jpart l
  unfold tjoin mkT
  split
  · simp [tz, tall, talls]
  · rename_i x e; rw [e] at h; simp [talls] at h; omega
  · rw [tall]; omega
theorem tchoose_tall (l : List Tr) : tall (tchoose l) ≤ 1 + talls l := by
  have h := talls_flat _ talls_cpart l
  unfold tchoose mkT
  split
  · simp [tz, tall, talls]
  · rename_i x e; rw [e] at h; simp [talls] at h; omega
  · rw [tall]; omega
theorem tknowns_append (a b : List Tr) : tknowns (a ++ b) = (tknowns a && tknowns b) := by
  induction a with
  | nil => rfl
  | cons x xs ih => rw [List.cons_append, tknowns, tknowns, ih, Bool.and_assoc]
theorem known_parts (t : Tr) (h : tknown t = true) : tknowns t.parts = true := by
  obtain ⟨k, s, mn, mx, num, ps⟩ := t
  rw [tknown] at h
  simp at h
  exact h.2
theorem known_jpart (x : Tr) (h : tknown x = true) : tknowns (tjpart x) = true := by
  unfold tjpart
  split
  · rfl
  · split
    · exact known_parts x h
    · simp [tknowns, h]
theorem known_cpart (x : Tr) (h : tknown x = true) : tknowns (tcpart x) = true := by
  unfold tcpart
  split
  · exact known_parts x h
  · simp [tknowns, h]
theorem known_flat (f : Tr → List Tr) (hf : ∀ x, tknown x = true → tknowns (f x) = true) (l : List Tr) (h : tknowns l = true) : tknowns (l.flatMap f) = true := by
  induction l with
  | nil => rfl
  | cons x xs ih =>
    rw [tknowns] at h
    simp at h
    rw [List.flatMap_cons, tknowns_append, hf x h.1, ih h.2]
    rfl
theorem known_tjoin (l : List Tr) (h : tknowns l = true) : tknown (tjoin l) = true := by
  have h2 := known_flat _ known_jpart l h
  unfold tjoin mkT
  split
  · rfl
  · rename_i x e; rw [e, tknowns] at h2; simp at h2; exact h2.1
  · rw [tknown, h2]; rfl
theorem known_tchoose (l : List Tr) (h : tknowns l = true) : tknown (tchoose l) = true := by
  have h2 := known_flat _ known_cpart l h
  unfold tchoose mkT
  split
  · rfl
  · rename_i x e; rw [e, tknowns] at h2; simp at h2; exact h2.1
  · rw [tknown, h2]; rfl
theorem canon_jpart (x : Tr) (h : tknown x = true) : (tjpart x).map canon = jpart (canon x) := by
  rcases canon_cases x h with ⟨k, e⟩ | ⟨k, _, e⟩ | ⟨k, _, e⟩ | ⟨k, _, e⟩ | ⟨k, _, _, _, e⟩ | ⟨k, _, _, e⟩ | ⟨k, _, e⟩ | ⟨k, e⟩ | ⟨k, e⟩
  · rw [e]; unfold tjpart; rw [if_pos k]; rfl
  · unfold tjpart; rw [if_neg (by omega), if_neg (by omega)]; rw [e]; show [canon x] = _; rw [e]; rfl
  · have hk : tkids x = x.parts := by unfold tkids; rw [if_pos (.inl k)]
    have h2 := canon_2 x k
    unfold tjpart; rw [if_neg (by omega), if_pos k, h2, hk]; rfl
  all_goals (unfold tjpart; rw [if_neg (by omega), if_neg (by omega)]; rw [e]; show [canon x] = _; rw [e]; rfl)
theorem canon_cpart (x : Tr) (h : tknown x = true) : (tcpart x).map canon = cpart (canon x) := by
  rcases canon_cases x h with ⟨k, e⟩ | ⟨k, _, e⟩ | ⟨k, _, e⟩ | ⟨k, _, e⟩ | ⟨k, _, _, _, e⟩ | ⟨k, _, _, e⟩ | ⟨k, _, e⟩ | ⟨k, e⟩ | ⟨k, e⟩
  case inr.inr.inr.inl =>
    have hk : tkids x = x.parts := by unfold tkids; rw [if_pos (.inr k)]
    have h2 := canon_3 x k
    unfold tcpart; rw [if_pos k, h2, hk]; rfl
  all_goals (unfold tcpart; rw [if_neg (by omega)]; rw [e]; show [canon x] = _; rw [e]; rfl)
theorem canon_flat (f : Tr → List Tr) (g : Nd → List Nd) (hf : ∀ x, tknown x = true → (f x).map canon = g (canon x)) (l : List Tr) (h : tknowns l = true) : (l.flatMap f).map canon = (l.map canon).flatMap g := by
  induction l with
  | nil => rfl
  | cons x xs ih =>
    rw [tknowns] at h
    simp at h
    rw [List.flatMap_cons, List.map_append, hf x h.1, ih h.2, List.map_cons, List.flatMap_cons]
theorem canon_tjoin (l : List Tr) (h : tknowns l = true) : canon (tjoin l) = njoin (l.map canon) := by
  have h2 := canon_flat _ _ canon_jpart l h
  unfold tjoin mkT njoin jflat
  rw [← h2]
  rcases l.flatMap tjpart with _ | ⟨x, _ | ⟨y, ys⟩⟩
  · rfl
  · rfl
  · exact congrArg Nd.cat (canons_map _)
theorem canon_tchoose (l : List Tr) (h : tknowns l = true) : canon (tchoose l) = nchoose (l.map canon) := by
  have h2 := canon_flat _ _ canon_cpart l h
  unfold tchoose mkT nchoose cflat
  rw [← h2]
  rcases l.flatMap tcpart with _ | ⟨x, _ | ⟨y, ys⟩⟩
  · rfl
  · rfl
  · exact congrArg Nd.alt (canons_map _)
end Go.Proofs.YtacpoandhocmhaaDoor
namespace Go.Proofs.YtacpoandhocmhaaDoor
open Go Go.RowKit

/-- A node's parts lie in a row at a, each with its own; F: the blocks that it may go through. -/
def TrF (F : Nat → Prop) : Nat → World → Tr → Option Addr → Nat → Prop
  | 0, _, _, _, _ => False
  | n + 1, w, t, a, cap => t.parts.length ≤ cap ∧ cap ≤ maxLen ∧ (0 < t.parts.length → ∃ b o, a = some ⟨b, o, none⟩ ∧ F b ∧ b < w.heap.size ∧ ∀ i (h : i < t.parts.length), ∃ a' cap', Cl9 w b (o + i * 9) t.parts[i] a' cap' ∧ TrF F n w t.parts[i] a' cap')
theorem Cl9.same {w w' : World} {b o : Nat} {t : Tr} {a : Option Addr} {cap : Nat} (h : Cl9 w b o t a cap) (hs : ∀ o, w'.cell? ⟨b, o, none⟩ = w.cell? ⟨b, o, none⟩) : Cl9 w' b o t a cap :=
  ⟨(hs _).trans h.k, (hs _).trans h.s0, (hs _).trans h.s1, (hs _).trans h.s2, (hs _).trans h.s3, (hs _).trans h.p, (hs _).trans h.mn, (hs _).trans h.mx, (hs _).trans h.num⟩
theorem TrF.keep {F G : Nat → Prop} {w w' : World} (hs : w.heap.size ≤ w'.heap.size) (hF : ∀ b, F b → b < w.heap.size → G b ∧ ∀ o, w'.cell? ⟨b, o, none⟩ = w.cell? ⟨b, o, none⟩) :
    ∀ (n : Nat) (t : Tr) (a : Option Addr) (cap : Nat), TrF F n w t a cap → TrF G n w' t a cap := by
  intro n
  induction n with
  | zero => intro t a cap h; exact h
  | succ n ih =>
    intro t a cap h
    unfold TrF at h ⊢
    refine ⟨h.1, h.2.1, fun h0 => ?_⟩
    obtain ⟨b, o, rfl, hf, hlt, hk⟩ := h.2.2 h0
    refine ⟨b, o, rfl, (hF b hf hlt).1, Nat.lt_of_lt_of_le hlt hs, fun i hi => ?_⟩
    obtain ⟨a', cap', h9, hr⟩ := hk i hi
    exact ⟨a', cap', h9.same (hF b hf hlt).2, ih _ _ _ hr⟩
theorem TrF.more {F : Nat → Prop} {w : World} : ∀ (n m : Nat) (t : Tr) (a : Option Addr) (cap : Nat), n ≤ m → TrF F n w t a cap → TrF F m w t a cap := by
  intro n
  induction n with
  | zero => intro m t a cap _ h; exact h.elim
  | succ n ih =>
    intro m t a cap hm h
    obtain ⟨m, rfl⟩ : ∃ m', m = m' + 1 := ⟨m - 1, by omega⟩
    unfold TrF at h ⊢
    refine ⟨h.1, h.2.1, fun h0 => ?_⟩
    obtain ⟨b, o, rfl, hf, hlt, hk⟩ := h.2.2 h0
    refine ⟨b, o, rfl, hf, hlt, fun i hi => ?_⟩
    obtain ⟨a', cap', h9, hr⟩ := hk i hi
    exact ⟨a', cap', h9, ih _ _ _ _ (by omega) hr⟩
theorem TrF.at {F : Nat → Prop} {w : World} : ∀ (n : Nat) (t : Tr) (a : Option Addr) (cap : Nat), TrF F n w t a cap → TrAt n w t a cap := by
  intro n
  induction n with
  | zero => intro t a cap h; exact h
  | succ n ih =>
    intro t a cap h
    unfold TrF at h
    unfold TrAt
    refine ⟨h.1, h.2.1, fun h0 => ?_⟩
    obtain ⟨b, o, rfl, hf, hlt, hk⟩ := h.2.2 h0
    refine ⟨b, o, rfl, hlt, fun i hi => ?_⟩
    obtain ⟨a', cap', h9, hr⟩ := hk i hi
    exact ⟨a', cap', h9, ih _ _ _ hr⟩
theorem TrF.of {w : World} : ∀ (n : Nat) (t : Tr) (a : Option Addr) (cap : Nat), TrAt n w t a cap → TrF (fun b => b < w.heap.size) n w t a cap := by
  intro n
  induction n with
  | zero => intro t a cap h; exact h
  | succ n ih =>
    intro t a cap h
    unfold TrAt at h
    unfold TrF
    refine ⟨h.1, h.2.1, fun h0 => ?_⟩
    obtain ⟨b, o, rfl, hlt, hk⟩ := h.2.2 h0
    refine ⟨b, o, rfl, hlt, hlt, fun i hi => ?_⟩
    obtain ⟨a', cap', h9, hr⟩ := hk i hi
    exact ⟨a', cap', h9, ih _ _ _ hr⟩
/-- However deep. -/
def TrX (F : Nat → Prop) (w : World) (t : Tr) (a : Option Addr) (cap : Nat) : Prop := ∃ n, TrF F n w t a cap
/-- A row of nodes. -/
def TrRw (F : Nat → Prop) (w : World) (l : List Tr) (a : Option Addr) (cap : Nat) : Prop :=
  l.length ≤ cap ∧ cap ≤ maxLen ∧ (0 < l.length → ∃ b o, a = some ⟨b, o, none⟩ ∧ F b ∧ b < w.heap.size ∧ ∀ i (h : i < l.length), ∃ a' cap', Cl9 w b (o + i * 9) l[i] a' cap' ∧ TrX F w l[i] a' cap')
theorem TrX.keep {F G : Nat → Prop} {w w' : World} (hs : w.heap.size ≤ w'.heap.size) (hF : ∀ b, F b → b < w.heap.size → G b ∧ ∀ o, w'.cell? ⟨b, o, none⟩ = w.cell? ⟨b, o, none⟩) {t : Tr} {a : Option Addr} {cap : Nat} (h : TrX F w t a cap) : TrX G w' t a cap := by
  obtain ⟨n, h⟩ := h
  exact ⟨n, TrF.keep hs hF _ _ _ _ h⟩
theorem TrRw.keep {F G : Nat → Prop} {w w' : World} (hs : w.heap.size ≤ w'.heap.size) (hF : ∀ b, F b → b < w.heap.size → G b ∧ ∀ o, w'.cell? ⟨b, o, none⟩ = w.cell? ⟨b, o, none⟩) {l : List Tr} {a : Option Addr} {cap : Nat} (h : TrRw F w l a cap) : TrRw G w' l a cap := by
  refine ⟨h.1, h.2.1, fun h0 => ?_⟩
  obtain ⟨b, o, rfl, hf, hlt, hk⟩ := h.2.2 h0
  refine ⟨b, o, rfl, (hF b hf hlt).1, Nat.lt_of_lt_of_le hlt hs, fun i hi => ?_⟩
  obtain ⟨a', cap', h9, hr⟩ := hk i hi
  exact ⟨a', cap', h9.same (hF b hf hlt).2, hr.keep hs hF⟩
theorem TrX.below {F : Nat → Prop} {w w' : World} (hb : Below w.heap.size w w') {t : Tr} {a : Option Addr} {cap : Nat} (h : TrX F w t a cap) : TrX F w' t a cap :=
  h.keep hb.size (fun b hf hlt => ⟨hf, fun o => hb.cell (p := ⟨b, o, none⟩) hlt⟩)
theorem TrRw.below {F : Nat → Prop} {w w' : World} (hb : Below w.heap.size w w') {l : List Tr} {a : Option Addr} {cap : Nat} (h : TrRw F w l a cap) : TrRw F w' l a cap :=
  h.keep hb.size (fun b hf hlt => ⟨hf, fun o => hb.cell (p := ⟨b, o, none⟩) hlt⟩)
theorem TrX.wide {F : Nat → Prop} {w : World} {t : Tr} {a : Option Addr} {cap : Nat} (h : TrX F w t a cap) : TrX (fun _ => True) w t a cap := h.keep (Nat.le_refl _) (fun _ _ _ => ⟨trivial, fun _ => rfl⟩)
theorem TrX.inn {F : Nat → Prop} {w : World} {t : Tr} {a : Option Addr} {cap : Nat} (h : TrX F w t a cap) : TrX (fun b => b < w.heap.size) w t a cap := h.keep (Nat.le_refl _) (fun _ _ hl => ⟨hl, fun _ => rfl⟩)
theorem TrRw.inn {F : Nat → Prop} {w : World} {l : List Tr} {a : Option Addr} {cap : Nat} (h : TrRw F w l a cap) : TrRw (fun b => b < w.heap.size) w l a cap := h.keep (Nat.le_refl _) (fun _ _ hl => ⟨hl, fun _ => rfl⟩)
theorem TrX.trd {F : Nat → Prop} {w : World} {t : Tr} {a : Option Addr} {cap : Nat} (h : TrX F w t a cap) : ∃ N, TrD N w t a cap := by
  obtain ⟨n, h⟩ := h
  exact ⟨2 * n + 1, n, TrF.at _ _ _ _ h, by have := kb_le t; omega⟩
theorem TrX.of {n : Nat} {w : World} {t : Tr} {a : Option Addr} {cap : Nat} (h : TrAt n w t a cap) : TrX (fun b => b < w.heap.size) w t a cap := ⟨n, TrF.of _ _ _ _ h⟩
/-- A row as a node's parts. -/
theorem TrRw.up {F : Nat → Prop} {w : World} {t : Tr} {a : Option Addr} {cap : Nat} (h : TrRw F w t.parts a cap) : TrX F w t a cap := by
  by_cases h0 : 0 < t.parts.length
  · obtain ⟨b, o, rfl, hf, hlt, hk⟩ := h.2.2 h0
    have hone : ∀ i, i < t.parts.length → ∃ N : Nat, ∀ (h : i < t.parts.length), ∃ a' cap', Cl9 w b (o + i * 9) t.parts[i] a' cap' ∧ TrF F N w t.parts[i] a' cap' := fun i hi => by
      obtain ⟨a', cap', h9, n, hr⟩ := hk i hi
      exact ⟨n, fun _ => ⟨a', cap', h9, hr⟩⟩
    obtain ⟨N, hN⟩ := Go.Deep.fuel_lt (q := fun i N => ∀ (h : i < t.parts.length), ∃ a' cap', Cl9 w b (o + i * 9) t.parts[i] a' cap' ∧ TrF F N w t.parts[i] a' cap') (fun i m n hmn hq hi => by
      obtain ⟨a', cap', h9, hr⟩ := hq hi
      exact ⟨a', cap', h9, TrF.more _ _ _ _ _ hmn hr⟩) hone
    exact ⟨N + 1, h.1, h.2.1, fun _ => ⟨b, o, rfl, hf, hlt, fun i hi => hN i hi hi⟩⟩
  · exact ⟨1, h.1, h.2.1, fun h => absurd h h0⟩
theorem TrX.down {F : Nat → Prop} {w : World} {t : Tr} {a : Option Addr} {cap : Nat} (h : TrX F w t a cap) : TrRw F w t.parts a cap := by
  obtain ⟨n, h⟩ := h
  cases n with
  | zero => exact h.elim
  | succ n =>
    refine ⟨h.1, h.2.1, fun h0 => ?_⟩
    obtain ⟨b, o, rfl, hf, hlt, hk⟩ := h.2.2 h0
    refine ⟨b, o, rfl, hf, hlt, fun i hi => ?_⟩
    obtain ⟨a', cap', h9, hr⟩ := hk i hi
    exact ⟨a', cap', h9, n, hr⟩
theorem TrRw.nil (F : Nat → Prop) (w : World) (a : Option Addr) (cap : Nat) (h : cap ≤ maxLen) : TrRw F w [] a cap := ⟨Nat.zero_le _, h, fun h => absurd h (by simp)⟩
/-- Nodes' cells, one behind the other. -/
def Chunks (F : Nat → Prop) (w : World) : List Tr → List Value → Prop
  | [], us => us = []
  | x :: xs, us => ∃ a cap us', us = (tC x a cap).toList ++ us' ∧ TrX F w x a cap ∧ Chunks F w xs us'
theorem Chunks.append {F : Nat → Prop} {w : World} : ∀ {l m : List Tr} {us vs : List Value}, Chunks F w l us → Chunks F w m vs → Chunks F w (l ++ m) (us ++ vs)
  | [], m, us, vs, h, k => by rw [show us = [] from h]; exact k
  | x :: xs, m, us, vs, h, k => by
    obtain ⟨a, cap, us', rfl, hx, hr⟩ := h
    exact ⟨a, cap, us' ++ vs, by rw [List.append_assoc], hx, Chunks.append hr k⟩
theorem Chunks.keep {F G : Nat → Prop} {w w' : World} (hs : w.heap.size ≤ w'.heap.size) (hF : ∀ b, F b → b < w.heap.size → G b ∧ ∀ o, w'.cell? ⟨b, o, none⟩ = w.cell? ⟨b, o, none⟩) : ∀ {l : List Tr} {us : List Value}, Chunks F w l us → Chunks G w' l us
  | [], _, h => h
  | x :: xs, us, h => by
    obtain ⟨a, cap, us', rfl, hx, hr⟩ := h
    exact ⟨a, cap, us', rfl, hx.keep hs hF, Chunks.keep hs hF hr⟩
theorem Chunks.len {F : Nat → Prop} {w : World} : ∀ {l : List Tr} {us : List Value}, Chunks F w l us → us.length = l.length * 9
  | [], us, h => by rw [show us = [] from h]; rfl
  | x :: xs, us, h => by
    obtain ⟨a, cap, us', rfl, hx, hr⟩ := h
    rw [List.length_append, hr.len, List.length_cons]
    simp
    omega
theorem Chunks.one {F : Nat → Prop} {w : World} : ∀ {l : List Tr} {us : List Value}, Chunks F w l us → ∀ u ∈ us, u.oneCell' = true
  | [], us, h => by rw [show us = [] from h]; intro u hu; simp at hu
  | x :: xs, us, h => by
    obtain ⟨a, cap, us', rfl, hx, hr⟩ := h
    intro u hu
    rcases List.mem_append.1 hu with hu | hu
    · simp at hu
      rcases hu with rfl | rfl | rfl | rfl | rfl | rfl | rfl | rfl | rfl <;> rfl
    · exact hr.one u hu
theorem Chunks.single {F : Nat → Prop} {w : World} {x : Tr} {a : Option Addr} {cap : Nat} (h : TrX F w x a cap) : Chunks F w [x] (tC x a cap).toList := ⟨a, cap, [], by simp, h, rfl⟩
/-- What lies in a row, as cells. -/
theorem Chunks.at {F : Nat → Prop} {w : World} : ∀ {l : List Tr} {us : List Value} {b o : Nat}, Chunks F w l us → (∀ j u, us[j]? = some u → w.cell? ⟨b, o + j, none⟩ = some u) → ∀ i (h : i < l.length), ∃ a' cap', Cl9 w b (o + i * 9) l[i] a' cap' ∧ TrX F w l[i] a' cap'
  | [], _, _, _, _, _, i, h => absurd h (by simp)
  | x :: xs, us, b, o, h, hc, i, hi => by
    obtain ⟨a, cap, us', rfl, hx, hr⟩ := h
    cases i with
    | zero =>
      have hj : ∀ j v, (tC x a cap)[j]? = some v → w.cell? ⟨b, o + j, none⟩ = some v := fun j v hv => hc j v (by
        have hlt : j < (tC x a cap).toList.length := by
          rw [Array.length_toList]
          exact (Array.getElem?_eq_some_iff.1 hv).1
        rw [List.getElem?_append_left hlt, Array.getElem?_toList]; exact hv)
      refine ⟨a, cap, ?_, hx⟩
      rw [Nat.zero_mul, Nat.add_zero]
      exact ⟨hj 0 _ rfl, hj 1 _ rfl, hj 2 _ rfl, hj 3 _ rfl, hj 4 _ rfl, hj 5 _ rfl, hj 6 _ rfl, hj 7 _ rfl, hj 8 _ rfl⟩
    | succ i =>
      have h2 := Chunks.at (b := b) (o := o + 9) hr (fun j u hu => by
        have := hc (9 + j) u (by
          rw [List.getElem?_append_right (by simp)]
          simpa using hu)
        rw [← Nat.add_assoc] at this
        exact this) i (by simpa using hi)
      rw [show o + 9 + i * 9 = o + (i + 1) * 9 by omega] at h2
      exact h2
/-- The cells of a row that is there. -/
theorem chunks_of {F : Nat → Prop} {w : World} : ∀ {l : List Tr} {b o : Nat}, (∀ i (h : i < l.length), ∃ a' cap', Cl9 w b (o + i * 9) l[i] a' cap' ∧ TrX F w l[i] a' cap') → ∃ us, Chunks F w l us ∧ ∀ j u, us[j]? = some u → w.cell? ⟨b, o + j, none⟩ = some u
  | [], _, _, _ => ⟨[], rfl, fun j u hu => by simp at hu⟩
  | x :: xs, b, o, h => by
    obtain ⟨a, cap, h9, hx⟩ := h 0 (by simp)
    obtain ⟨us', hr, hc⟩ := chunks_of (l := xs) (b := b) (o := o + 9) (fun i hi => by
      have h2 := h (i + 1) (by simpa using hi)
      rw [show o + (i + 1) * 9 = o + 9 + i * 9 by omega] at h2
      exact h2)
    refine ⟨(tC x a cap).toList ++ us', ⟨a, cap, us', rfl, hx, hr⟩, fun j u hu => ?_⟩
    rw [Nat.zero_mul, Nat.add_zero] at h9
    by_cases hj : j < 9
    · rw [List.getElem?_append_left (by simpa using hj)] at hu
      obtain ⟨c0, c1, c2, c3, c4, c5, c6, c7, c8⟩ := h9
      match j, hj, hu with
      | 0, _, hu => simp at hu; subst hu; exact c0
      | 1, _, hu => simp at hu; subst hu; exact c1
      | 2, _, hu => simp at hu; subst hu; exact c2
      | 3, _, hu => simp at hu; subst hu; exact c3
      | 4, _, hu => simp at hu; subst hu; exact c4
      | 5, _, hu => simp at hu; subst hu; exact c5
      | 6, _, hu => simp at hu; subst hu; exact c6
      | 7, _, hu => simp at hu; subst hu; exact c7
      | 8, _, hu => simp at hu; subst hu; exact c8
    · rw [List.getElem?_append_right (by simp; omega)] at hu
      have := hc (j - 9) u (by simpa using hu)
      rw [show o + 9 + (j - 9) = o + j by omega] at this
      exact this
theorem TrRw.news {F : Nat → Prop} {w : World} {l : List Tr} {a : Option Addr} {cap : Nat} (h : TrRw F w l a cap) : ∃ us, Chunks F w l us ∧ (0 < l.length → ∃ a', a = some a' ∧ ∀ j u, us[j]? = some u → w.cell? (a'.add j) = some u) := by
  by_cases h0 : 0 < l.length
  · obtain ⟨b, o, rfl, hf, hlt, hk⟩ := h.2.2 h0
    obtain ⟨us, h1, h2⟩ := chunks_of hk
    exact ⟨us, h1, fun _ => ⟨_, rfl, fun j u hu => by rw [Go.WideShapes.add_plain]; exact h2 j u hu⟩⟩
  · have : l = [] := List.eq_nil_of_length_eq_zero (by omega)
    subst this
    exact ⟨[], rfl, fun h => absurd h h0⟩
/-- A block that isn't the row's own. -/
def OffV (v : Value) (b : Nat) : Prop := v.ownBlock ≠ some b
end Go.Proofs.YtacpoandhocmhaaDoor
namespace Go.Proofs.YtacpoandhocmhaaDoor
open Go Go.RowKit

theorem Blk.grown {w w' : World} {b : Nat} {cs : Array Value} {T : TypeId} {r : Option Nat} (h : Blk w b cs T) (hg : w.grownBy w' r) (hr : ∀ k, r = some k → b < k) : Blk w' b cs T := by
  have hlt := h.lt
  unfold Blk at h ⊢
  rw [hg.block b hlt (fun e => by have := hr b e.symm; omega)]
  exact h
end Go.Proofs.YtacpoandhocmhaaDoor
namespace Go.Proofs.YtacpoandhocmhaaDoor
open Go Go.RowKit

mutual
/-- The document's node of what a regex is made of. -/
def unc : Nd → Tr
  | .empty => tz
  | .one s => .mk 1 s 0 0 0 []
  | .cat l => .mk 2 oz 0 0 0 (uncs l)
  | .alt l => .mk 3 oz 0 0 0 (uncs l)
  | .rep d mn mx => .mk 4 oz mn mx 0 [unc d]
  | .group n d => .mk 5 oz 0 0 n [unc d]
  | .back n => .mk 6 oz 0 0 n []
  | .start => .mk 7 oz 0 0 0 []
  | .fin => .mk 8 oz 0 0 0 []
def uncs : List Nd → List Tr
  | [] => []
  | d :: ds => unc d :: uncs ds
end
theorem uncs_map (l : List Nd) : uncs l = l.map unc := by
  induction l with
  | nil => rfl
  | cons d ds ih => rw [uncs, ih]; rfl
mutual
theorem canon_unc : ∀ d : Nd, canon (unc d) = d
  | .empty => rfl
  | .one _ => rfl
  | .cat l => congrArg Nd.cat (canons_uncs l)
  | .alt l => congrArg Nd.alt (canons_uncs l)
  | .rep d mn mx => congrArg (fun x => Nd.rep x mn mx) (canon_unc d)
  | .group n d => congrArg (Nd.group n) (canon_unc d)
  | .back _ => rfl
  | .start => rfl
  | .fin => rfl
theorem canons_uncs : ∀ l : List Nd, canons (uncs l) = l
  | [] => rfl
  | d :: ds => by rw [uncs, canons, canon_unc d, canons_uncs ds]
end
mutual
theorem known_unc : ∀ d : Nd, tknown (unc d) = true
  | .empty => rfl
  | .one _ => rfl
  | .cat l => known_uncs l
  | .alt l => known_uncs l
  | .rep d _ _ => by show (true && (tknown (unc d) && true)) = true; rw [known_unc d]; rfl
  | .group _ d => by show (true && (tknown (unc d) && true)) = true; rw [known_unc d]; rfl
  | .back _ => rfl
  | .start => rfl
  | .fin => rfl
theorem known_uncs : ∀ l : List Nd, tknowns (uncs l) = true
  | [] => rfl
  | d :: ds => by rw [uncs, tknowns, known_unc d, known_uncs ds]; rfl
end
end Go.Proofs.YtacpoandhocmhaaDoor
namespace Go.Proofs.YtacpoandhocmhaaDoor
open Go Go.RowKit

abbrev R9 (w' : World) (p : Nat) (t : Tr) (a : Option Addr) (ca : Nat) : Prop :=
  w'.cell? ⟨p, 0, none⟩ = some (.int .i64 t.kind) ∧ w'.cell? ⟨p, 1, none⟩ = some (.int .u64 (ow t.set 0)) ∧ w'.cell? ⟨p, 2, none⟩ = some (.int .u64 (ow t.set 1)) ∧ w'.cell? ⟨p, 3, none⟩ = some (.int .u64 (ow t.set 2)) ∧ w'.cell? ⟨p, 4, none⟩ = some (.int .u64 (ow t.set 3)) ∧
    w'.cell? ⟨p, 5, none⟩ = some (.slice a t.parts.length ca) ∧ w'.cell? ⟨p, 6, none⟩ = some (.int .i64 t.mn) ∧ w'.cell? ⟨p, 7, none⟩ = some (.int .i64 t.mx) ∧ w'.cell? ⟨p, 8, none⟩ = some (.int .i64 t.num)
end Go.Proofs.YtacpoandhocmhaaDoor
