/- The document's nodes in memory, with the blocks that they go through; rows of them that the call makes itself. -/
import Derived.Test.YtbbcjclkklmoaaaDoorTrWk
import Derived.Test.YtbbcjclkklmoaaaDoorNdAo
import Derived.Test.YtbbcjclkklmoaaaDoorMaA
namespace Go.Proofs.YtbbcjclkklmoaaaDoor
open Go Go.RowKit

/-- A node's parts lie in a row at a, each with its own; F: the blocks that it may go through. -/
def TrF (F : Nat → Prop) : Nat → World → Tr → Option Addr → Nat → Prop
  | 0, _, _, _, _ => False
  | n + 1, w, t, a, cap => t.parts.length ≤ cap ∧ cap ≤ maxLen ∧ (0 < t.parts.length → ∃ b o, a = some ⟨b, o, none⟩ ∧ F b ∧ b < w.heap.size ∧ ∀ i (h : i < t.parts.length), ∃ a' cap', Cl9 w b (o + i * 9) t.parts[i] a' cap' ∧ TrF F n w t.parts[i] a' cap')
theorem Cl9.same {w w' : World} {b o : Nat} {t : Tr} {a : Option Addr} {cap : Nat} (h : Cl9 w b o t a cap) (hs : ∀ o, w'.cell? ⟨b, o, none⟩ = w.cell? ⟨b, o, none⟩) : Cl9 w' b o t a cap :=
  ⟨(hs _).trans h.k, (hs _).trans h.s0, (hs _).trans h.s1, (hs _).trans h.s2, (hs _).trans h.s3, (hs _).trans h.p, (hs _).trans h.mn, (hs _).trans h.mx, (hs _).trans h.num⟩
theorem TrF.keep {F G : Nat → Prop} {w w' : World} (hs : w.heap.size ≤ w'.heap.size) (hF : ∀ b, F b → b < w.heap.size → G b ∧ ∀ o, w'.cell? ⟨b, o, none⟩ = w.cell? ⟨b, o, none⟩) :
    ∀ (n : Nat) (t : Tr) (a : Option Addr) (cap : Nat), TrF F n w t a cap → TrF G n w' t a cap := by
  intro n
  induction n with
  | zero => intro t a cap h; exact h
  | succ n ih =>
    intro t a cap h
    unfold TrF at h ⊢
    refine ⟨h.1, h.2.1, fun h0 => ?_⟩
    obtain ⟨b, o, rfl, hf, hlt, hk⟩ := h.2.2 h0
    refine ⟨b, o, rfl, (hF b hf hlt).1, Nat.lt_of_lt_of_le hlt hs, fun i hi => ?_⟩
    obtain ⟨a', cap', h9, hr⟩ := hk i hi
    exact ⟨a', cap', h9.same (hF b hf hlt).2, ih _ _ _ hr⟩
theorem TrF.more {F : Nat → Prop} {w : World} : ∀ (n m : Nat) (t : Tr) (a : Option Addr) (cap : Nat), n ≤ m → TrF F n w t a cap → TrF F m w t a cap := by
  intro n
  induction n with
  | zero => intro m t a cap _ h; exact h.elim
  | succ n ih =>
    intro m t a cap hm h
    obtain ⟨m, rfl⟩ : ∃ m', m = m' + 1 := ⟨m - 1, by omega⟩
    unfold TrF at h ⊢
    refine ⟨h.1, h.2.1, fun h0 => ?_⟩
    obtain ⟨b, o, rfl, hf, hlt, hk⟩ := h.2.2 h0
    refine ⟨b, o, rfl, hf, hlt, fun i hi => ?_⟩
    obtain ⟨a', cap', h9, hr⟩ := hk i hi
    exact ⟨a', cap', h9, ih _ _ _ _ (by omega) hr⟩
theorem TrF.at {F : Nat → Prop} {w : World} : ∀ (n : Nat) (t : Tr) (a : Option Addr) (cap : Nat), TrF F n w t a cap → TrAt n w t a cap := by
  intro n
  induction n with
  | zero => intro t a cap h; exact h
  | succ n ih =>
    intro t a cap h
    unfold TrF at h
    unfold TrAt
    refine ⟨h.1, h.2.1, fun h0 => ?_⟩
    obtain ⟨b, o, rfl, hf, hlt, hk⟩ := h.2.2 h0
    refine ⟨b, o, rfl, hlt, fun i hi => ?_⟩
    obtain ⟨a', cap', h9, hr⟩ := hk i hi
    exact ⟨a', cap', h9, ih _ _ _ hr⟩
theorem TrF.of {w : World} : ∀ (n : Nat) (t : Tr) (a : Option Addr) (cap : Nat), TrAt n w t a cap → TrF (fun b => b < w.heap.size) n w t a cap := by
  intro n
  induction n with
  | zero => intro t a cap h; exact h
  | succ n ih =>
    intro t a cap h
    unfold TrAt at h
    unfold TrF
    refine ⟨h.1, h.2.1, fun h0 => ?_⟩
    obtain ⟨b, o, rfl, hlt, hk⟩ := h.2.2 h0
    refine ⟨b, o, rfl, hlt, hlt, fun i hi => ?_⟩
    obtain ⟨a', cap', h9, hr⟩ := hk i hi
    exact ⟨a', cap', h9, ih _ _ _ hr⟩
/-- However deep. -/
def TrX (F : Nat → Prop) (w : World) (t : Tr) (a : Option Addr) (cap : Nat) : Prop := ∃ n, TrF F n w t a cap
/-- A row of nodes. -/
def TrRw (F : Nat → Prop) (w : World) (l : List Tr) (a : Option Addr) (cap : Nat) : Prop :=
  l.length ≤ cap ∧ cap ≤ maxLen ∧ (0 < l.length → ∃ b o, a = some ⟨b, o, none⟩ ∧ F b ∧ b < w.heap.size ∧ ∀ i (h : i < l.length), ∃ a' cap', Cl9 w b (o + i * 9) l[i] a' cap' ∧ TrX F w l[i] a' cap')
theorem TrX.keep {F G : Nat → Prop} {w w' : World} (hs : w.heap.size ≤ w'.heap.size) (hF : ∀ b, F b → b < w.heap.size → G b ∧ ∀ o, w'.cell? ⟨b, o, none⟩ = w.cell? ⟨b, o, none⟩) {t : Tr} {a : Option Addr} {cap : Nat} (h : TrX F w t a cap) : TrX G w' t a cap := by
  obtain ⟨n, h⟩ := h
  exact ⟨n, TrF.keep hs hF _ _ _ _ h⟩
theorem TrRw.keep {F G : Nat → Prop} {w w' : World} (hs : w.heap.size ≤ w'.heap.size) (hF : ∀ b, F b → b < w.heap.size → G b ∧ ∀ o, w'.cell? ⟨b, o, none⟩ = w.cell? ⟨b, o, none⟩) {l : List Tr} {a : Option Addr} {cap : Nat} (h : TrRw F w l a cap) : TrRw G w' l a cap := by
  refine ⟨h.1, h.2.1, fun h0 => ?_⟩
  obtain ⟨b, o, rfl, hf, hlt, hk⟩ := h.2.2 h0
  refine ⟨b, o, rfl, (hF b hf hlt).1, Nat.lt_of_lt_of_le hlt hs, fun i hi => ?_⟩
  obtain ⟨a', cap', h9, hr⟩ := hk i hi
  exact ⟨a', cap', h9.same (hF b hf hlt).2, hr.keep hs hF⟩
theorem TrX.below {F : Nat → Prop} {w w' : World} (hb : Below w.heap.size w w') {t : Tr} {a : Option Addr} {cap : Nat} (h : TrX F w t a cap) : TrX F w' t a cap :=
  h.keep hb.size (fun b hf hlt => ⟨hf, fun o => hb.cell (p := ⟨b, o, none⟩) hlt⟩)
theorem TrRw.below {F : Nat → Prop} {w w' : World} (hb : Below w.heap.size w w') {l : List Tr} {a : Option Addr} {cap : Nat} (h : TrRw F w l a cap) : TrRw F w' l a cap :=
  h.keep hb.size (fun b hf hlt => ⟨hf, fun o => hb.cell (p := ⟨b, o, none⟩) hlt⟩)
theorem TrX.wide {F : Nat → Prop} {w : World} {t : Tr} {a : Option Addr} {cap : Nat} (h : TrX F w t a cap) : TrX (fun _ => True) w t a cap := h.keep (Nat.le_refl _) (fun _ _ _ => ⟨trivial, fun _ => rfl⟩)
theorem TrX.inn {F : Nat → Prop} {w : World} {t : Tr} {a : Option Addr} {cap : Nat} (h : TrX F w t a cap) : TrX (fun b => b < w.heap.size) w t a cap := h.keep (Nat.le_refl _) (fun _ _ hl => ⟨hl, fun _ => rfl⟩)
theorem TrRw.inn {F : Nat → Prop} {w : World} {l : List Tr} {a : Option Addr} {cap : Nat} (h : TrRw F w l a cap) : TrRw (fun b => b < w.heap.size) w l a cap := h.keep (Nat.le_refl _) (fun _ _ hl => ⟨hl, fun _ => rfl⟩)
theorem TrX.trd {F : Nat → Prop} {w : World} {t : Tr} {a : Option Addr} {cap : Nat} (h : TrX F w t a cap) : ∃ N, TrD N w t a cap := by
  obtain ⟨n, h⟩ := h
  exact ⟨2 * n + 1, n, TrF.at _ _ _ _ h, by have := kb_le t; omega⟩
theorem TrX.of {n : Nat} {w : World} {t : Tr} {a : Option Addr} {cap : Nat} (h : TrAt n w t a cap) : TrX (fun b => b < w.heap.size) w t a cap := ⟨n, TrF.of _ _ _ _ h⟩
/-- A row as a node's parts. -/
theorem TrRw.up {F : Nat → Prop} {w : World} {t : Tr} {a : Option Addr} {cap : Nat} (h : TrRw F w t.parts a cap) : TrX F w t a cap := by
  by_cases h0 : 0 < t.parts.length
  · obtain ⟨b, o, rfl, hf, hlt, hk⟩ := h.2.2 h0
    have hone : ∀ i, i < t.parts.length → ∃ N : Nat, ∀ (h : i < t.parts.length), ∃ a' cap', Cl9 w b (o + i * 9) t.parts[i] a' cap' ∧ TrF F N w t.parts[i] a' cap' := fun i hi => by
      obtain ⟨a', cap', h9, n, hr⟩ := hk i hi
      exact ⟨n, fun _ => ⟨a', cap', h9, hr⟩⟩
    obtain ⟨N, hN⟩ := Go.Deep.fuel_lt (q := fun i N => ∀ (h : i < t.parts.length), ∃ a' cap', Cl9 w b (o + i * 9) t.parts[i] a' cap' ∧ TrF F N w t.parts[i] a' cap') (fun i m n hmn hq hi => by
      obtain ⟨a', cap', h9, hr⟩ := hq hi
      exact ⟨a', cap', h9, TrF.more _ _ _ _ _ hmn hr⟩) hone
    exact ⟨N + 1, h.1, h.2.1, fun _ => ⟨b, o, rfl, hf, hlt, fun i hi => hN i hi hi⟩⟩
  · exact ⟨1, h.1, h.2.1, fun h => absurd h h0⟩
theorem TrX.down {F : Nat → Prop} {w : World} {t : Tr} {a : Option Addr} {cap : Nat} (h : TrX F w t a cap) : TrRw F w t.parts a cap := by
  obtain ⟨n, h⟩ := h
  cases n with
  | zero => exact h.elim
  | succ n =>
    refine ⟨h.1, h.2.1, fun h0 => ?_⟩
    obtain ⟨b, o, rfl, hf, hlt, hk⟩ := h.2.2 h0
    refine ⟨b, o, rfl, hf, hlt, fun i hi => ?_⟩
    obtain ⟨a', cap', h9, hr⟩ := hk i hi
    exact ⟨a', cap', h9, n, hr⟩
theorem TrRw.nil (F : Nat → Prop) (w : World) (a : Option Addr) (cap : Nat) (h : cap ≤ maxLen) : TrRw F w [] a cap := ⟨Nat.zero_le _, h, fun h => absurd h (by simp)⟩
/-- Nodes' cells, one behind the other. -/
def Chunks (F : Nat → Prop) (w : World) : List Tr → List Value → Prop
  | [], us => us = []
  | x :: xs, us => ∃ a cap us', us = (tC x a cap).toList ++ us' ∧ TrX F w x a cap ∧ Chunks F w xs us'
theorem Chunks.append {F : Nat → Prop} {w : World} : ∀ {l m : List Tr} {us vs : List Value}, Chunks F w l us → Chunks F w m vs → Chunks F w (l ++ m) (us ++ vs)
  | [], m, us, vs, h, k => by rw [show us = [] from h]; exact k
  | x :: xs, m, us, vs, h, k => by
    obtain ⟨a, cap, us', rfl, hx, hr⟩ := h
    exact ⟨a, cap, us' ++ vs, by rw [List.append_assoc], hx, Chunks.append hr k⟩
theorem Chunks.keep {F G : Nat → Prop} {w w' : World} (hs : w.heap.size ≤ w'.heap.size) (hF : ∀ b, F b → b < w.heap.size → G b ∧ ∀ o, w'.cell? ⟨b, o, none⟩ = w.cell? ⟨b, o, none⟩) : ∀ {l : List Tr} {us : List Value}, Chunks F w l us → Chunks G w' l us
  | [], _, h => h
  | x :: xs, us, h => by
    obtain ⟨a, cap, us', rfl, hx, hr⟩ := h
    exact ⟨a, cap, us', rfl, hx.keep hs hF, Chunks.keep hs hF hr⟩
theorem Chunks.len {F : Nat → Prop} {w : World} : ∀ {l : List Tr} {us : List Value}, Chunks F w l us → us.length = l.length * 9
  | [], us, h => by rw [show us = [] from h]; rfl
  | x :: xs, us, h => by
    obtain ⟨a, cap, us', rfl, hx, hr⟩ := h
    rw [List.length_append, hr.len, List.length_cons]
    simp
    omega
theorem Chunks.one {F : Nat → Prop} {w : World} : ∀ {l : List Tr} {us : List Value}, Chunks F w l us → ∀ u ∈ us, u.oneCell' = true
  | [], us, h => by rw [show us = [] from h]; intro u hu; simp at hu
  | x :: xs, us, h => by
    obtain ⟨a, cap, us', rfl, hx, hr⟩ := h
    intro u hu
    rcases List.mem_append.1 hu with hu | hu
    · simp at hu
      rcases hu with rfl | rfl | rfl | rfl | rfl | rfl | rfl | rfl | rfl <;> rfl
    · exact hr.one u hu
theorem Chunks.single {F : Nat → Prop} {w : World} {x : Tr} {a : Option Addr} {cap : Nat} (h : TrX F w x a cap) : Chunks F w [x] (tC x a cap).toList := ⟨a, cap, [], by simp, h, rfl⟩
/-- What lies in a row, as cells. -/
theorem Chunks.at {F : Nat → Prop} {w : World} : ∀ {l : List Tr} {us : List Value} {b o : Nat}, Chunks F w l us → (∀ j u, us[j]? = some u → w.cell? ⟨b, o + j, none⟩ = some u) → ∀ i (h : i < l.length), ∃ a' cap', Cl9 w b (o + i * 9) l[i] a' cap' ∧ TrX F w l[i] a' cap'
  | [], _, _, _, _, _, i, h => absurd h (by simp)
  | x :: xs, us, b, o, h, hc, i, hi => by
    obtain ⟨a, cap, us', rfl, hx, hr⟩ := h
    cases i with
    | zero =>
      have hj : ∀ j v, (tC x a cap)[j]? = some v → w.cell? ⟨b, o + j, none⟩ = some v := fun j v hv => hc j v (by
        have hlt : j < (tC x a cap).toList.length := by
          rw [Array.length_toList]
          exact (Array.getElem?_eq_some_iff.1 hv).1
        rw [List.getElem?_append_left hlt, Array.getElem?_toList]; exact hv)
      refine ⟨a, cap, ?_, hx⟩
      rw [Nat.zero_mul, Nat.add_zero]
      exact ⟨hj 0 _ rfl, hj 1 _ rfl, hj 2 _ rfl, hj 3 _ rfl, hj 4 _ rfl, hj 5 _ rfl, hj 6 _ rfl, hj 7 _ rfl, hj 8 _ rfl⟩
    | succ i =>
      have h2 := Chunks.at (b := b) (o := o + 9) hr (fun j u hu => by
        have := hc (9 + j) u (by
          rw [List.getElem?_append_right (by simp)]
          simpa using hu)
        rw [← Nat.add_assoc] at this
        exact this) i (by simpa using hi)
      rw [show o + 9 + i * 9 = o + (i + 1) * 9 by omega] at h2
      exact h2
/-- The cells of a row that is there. -/
theorem chunks_of {F : Nat → Prop} {w : World} : ∀ {l : List Tr} {b o : Nat}, (∀ i (h : i < l.length), ∃ a' cap', Cl9 w b (o + i * 9) l[i] a' cap' ∧ TrX F w l[i] a' cap') → ∃ us, Chunks F w l us ∧ ∀ j u, us[j]? = some u → w.cell? ⟨b, o + j, none⟩ = some u
  | [], _, _, _ => ⟨[], rfl, fun j u hu => by simp at hu⟩
  | x :: xs, b, o, h => by
    obtain ⟨a, cap, h9, hx⟩ := h 0 (by simp)
    obtain ⟨us', hr, hc⟩ := chunks_of (l := xs) (b := b) (o := o + 9) (fun i hi => by
      have h2 := h (i + 1) (by simpa using hi)
      rw [show o + (i + 1) * 9 = o + 9 + i * 9 by omega] at h2
      exact h2)
    refine ⟨(tC x a cap).toList ++ us', ⟨a, cap, us', rfl, hx, hr⟩, fun j u hu => ?_⟩
    rw [Nat.zero_mul, Nat.add_zero] at h9
    by_cases hj : j < 9
    · rw [List.getElem?_append_left (by simpa using hj)] at hu
      obtain ⟨c0, c1, c2, c3, c4, c5, c6, c7, c8⟩ := h9
      match j, hj, hu with
      | 0, _, hu => simp at hu; subst hu; exact c0
      | 1, _, hu => simp at hu; subst hu; exact c1
      | 2, _, hu => simp at hu; subst hu; exact c2
      | 3, _, hu => simp at hu; subst hu; exact c3
      | 4, _, hu => simp at hu; subst hu; exact c4
      | 5, _, hu => simp at hu; subst hu; exact c5
      | 6, _, hu => simp at hu; subst hu; exact c6
      | 7, _, hu => simp at hu; subst hu; exact c7
      | 8, _, hu => simp at hu; subst hu; exact c8
    · rw [List.getElem?_append_right (by simp; omega)] at hu
      have := hc (j - 9) u (by simpa using hu)
      rw [show o + 9 + (j - 9) = o + j by omega] at this
      exact this
theorem TrRw.news {F : Nat → Prop} {w : World} {l : List Tr} {a : Option Addr} {cap : Nat} (h : TrRw F w l a cap) : ∃ us, Chunks F w l us ∧ (0 < l.length → ∃ a', a = some a' ∧ ∀ j u, us[j]? = some u → w.cell? (a'.add j) = some u) := by
  by_cases h0 : 0 < l.length
  · obtain ⟨b, o, rfl, hf, hlt, hk⟩ := h.2.2 h0
    obtain ⟨us, h1, h2⟩ := chunks_of hk
    exact ⟨us, h1, fun _ => ⟨_, rfl, fun j u hu => by rw [Go.WideShapes.add_plain]; exact h2 j u hu⟩⟩
  · have : l = [] := List.eq_nil_of_length_eq_zero (by omega)
    subst this
    exact ⟨[], rfl, fun h => absurd h h0⟩
/-- A block that isn't the row's own. -/
def OffV (v : Value) (b : Nat) : Prop := v.ownBlock ≠ some b
/-- A row that the call makes itself, of nodes that lie beside it; G: the blocks that these may go through. -/
def TOwn (G : Nat → Prop) (B : Nat) (w : World) (l : List Tr) (v : Value) (us : List Value) : Prop :=
  w.ownsRow B 46 9 v l.length us ∧ Chunks (fun b => G b ∧ OffV v b) w l us
theorem TOwn.nil (G : Nat → Prop) (B : Nat) (w : World) : TOwn G B w [] (.slice none 0 0) [] := ⟨World.ownsRow_nil _ _ _ _, rfl⟩
theorem TOwn.below {G : Nat → Prop} {B : Nat} {w w' : World} {l : List Tr} {v : Value} {us : List Value} (h : TOwn G B w l v us) (hb : Below w.heap.size w w') : TOwn G B w' l v us :=
  ⟨nd_own_below h.1 hb, h.2.keep hb.size (fun b hf hlt => ⟨hf, fun o => hb.cell (p := ⟨b, o, none⟩) hlt⟩)⟩
theorem town_lt {B : Nat} {w : World} {e : TypeId} {size n : Nat} {v : Value} {us : List Value} (h : w.ownsRow B e size v n us) (g : Nat) (hg : v.ownBlock = some g) : g < w.heap.size := by
  rcases h.2 with ⟨rfl, _⟩ | ⟨g', cap, cur, rfl, _, hh, _⟩
  · simp [Value.ownBlock] at hg
  · simp [Value.ownBlock] at hg
    subst hg
    exact (Array.getElem?_eq_some_iff.1 hh).1
/-- What append leaves: what lies beside the row lies beside the new one. -/
theorem off_keep {G : Nat → Prop} {w w' : World} {v v' : Value} (hg : w.grownBy w' v.ownBlock) (hat : v'.ownBlock = v.ownBlock ∨ v'.ownBlock = some w.heap.size) : ∀ b, (G b ∧ OffV v b) → b < w.heap.size → (G b ∧ OffV v' b) ∧ ∀ o, w'.cell? ⟨b, o, none⟩ = w.cell? ⟨b, o, none⟩ :=
  fun b hf hlt => ⟨⟨hf.1, by
    rcases hat with e | e
    · unfold OffV; rw [e]; exact hf.2
    · unfold OffV; rw [e]; intro he; injection he with he; omega⟩, fun o => World.cell?_of_block (w := w) (a := ⟨b, o, none⟩) (hg.block b hlt (fun e => hf.2 e.symm))⟩
theorem TOwn.push {G : Nat → Prop} {B : Nat} {w w' : World} {l m : List Tr} {v v' : Value} {us vs : List Value} (h : TOwn G B w l v us) (hm : Chunks (fun b => G b ∧ OffV v b) w m vs) (hown : w'.ownsRow B 46 9 v' (l.length + m.length) (us ++ vs)) (hg : w.grownBy w' v.ownBlock) (hat : v'.ownBlock = v.ownBlock ∨ v'.ownBlock = some w.heap.size) : TOwn G B w' (l ++ m) v' (us ++ vs) :=
  ⟨by rw [List.length_append]; exact hown, (h.2.append hm).keep hg.size (off_keep hg hat)⟩
/-- As a row that is read. -/
theorem TOwn.row {G : Nat → Prop} {B : Nat} {w : World} {l : List Tr} {v : Value} {us : List Value} (h : TOwn G B w l v us) : ∃ a cap, v = .slice a l.length cap ∧ TrRw (fun b => G b ∨ B ≤ b) w l a cap := by
  obtain ⟨⟨h1, h2⟩, h3⟩ := h
  rcases h2 with ⟨rfl, hz⟩ | ⟨g, cap, cur, rfl, hg, hh, hn, hcap, hcs, htk⟩
  · exact ⟨none, 0, by rw [hz], by omega, Nat.zero_le _, fun h => by omega⟩
  · refine ⟨some ⟨g, 0, none⟩, cap, rfl, hn, hcap, fun h0 => ⟨g, 0, rfl, .inr hg, (Array.getElem?_eq_some_iff.1 hh).1, ?_⟩⟩
    have hc : Chunks (fun b => G b ∨ B ≤ b) w l us := h3.keep (Nat.le_refl _) (fun _ hf _ => ⟨.inl hf.1, fun _ => rfl⟩)
    exact hc.at (fun j u hu => by
      have hj : j < l.length * 9 := by rw [← h1]; exact (List.getElem?_eq_some_iff.1 hu).1
      have h4 : w.cell? ⟨g, 0 + j, none⟩ = cur[j]? := by simp [World.cell?, hh]
      have h5 : (cur.toList.take (l.length * 9))[j]? = us[j]? := by rw [htk]
      rw [List.getElem?_take_of_lt hj] at h5
      rw [h4, ← Array.getElem?_toList, h5, hu])
theorem t_info : ∃ i, Tryd.prog.info? 46 = some i ∧ i.zero = some (.agg zC) ∧ i.size = 9 ∧ i.bytes = 88 := by
  have h : (Tryd.prog.info? 46).map (fun i => (i.zero, i.size, i.bytes)) = some (some (.agg zC), 9, 88) := by kernel_rfl
  obtain ⟨i, hi, he⟩ := Option.map_eq_some_iff.1 h
  injection he with h1 h2
  injection h2 with h2 h3
  exact ⟨i, hi, h1, h2, h3⟩
theorem cl9_blk {w : World} {b : Nat} {x : Tr} {a : Option Addr} {cap : Nat} {T : TypeId} (h : Blk w b (tC x a cap) T) : Cl9 w b 0 x a cap :=
  ⟨(h.cell 0).trans rfl, (h.cell 1).trans rfl, (h.cell 2).trans rfl, (h.cell 3).trans rfl, (h.cell 4).trans rfl, (h.cell 5).trans rfl, (h.cell 6).trans rfl, (h.cell 7).trans rfl, (h.cell 8).trans rfl⟩
/-- One node, just made, to be appended. -/
theorem news_new (w : World) (x : Tr) (a : Option Addr) (cap : Nat) (T : TypeId) (g : Nat) (hg : g = w.heap.size) : ∀ j u, (tC x a cap).toList[j]? = some u → (w.alloc (.cells (tC x a cap) T)).cell? ((⟨g, 0, none⟩ : Addr).add j) = some u := by
  have h := Blk.new w (tC x a cap) T g hg
  intro j u hu
  rw [Go.WideShapes.add_plain, Nat.zero_add, h.cell j, ← Array.getElem?_toList]
  exact hu
/-- A row of one node, just made. -/
theorem trw_one {F G : Nat → Prop} {w : World} {x : Tr} {a : Option Addr} {cap : Nat} {T : TypeId} (h : TrX F w x a cap) (hG : ∀ b, F b → b < w.heap.size → G b) (hn : G w.heap.size) : TrRw G (w.alloc (.cells (tC x a cap) T)) [x] (some ⟨w.heap.size, 0, none⟩) 1 := by
  have hb := Blk.new w (tC x a cap) T _ rfl
  have hB := (Below.refl w.heap.size w).alloc (Nat.le_refl _) (.cells (tC x a cap) T)
  refine ⟨Nat.le_refl _, by decide, fun _ => ⟨w.heap.size, 0, rfl, hn, hb.lt, fun i hi => ?_⟩⟩
  obtain rfl : i = 0 := by simp at hi; exact hi
  exact ⟨a, cap, cl9_blk hb, h.keep hB.size (fun b hf hlt => ⟨hG b hf hlt, fun o => hB.cell (p := ⟨b, o, none⟩) hlt⟩)⟩
/-- Nine stores into a block of nine cells. -/
theorem put9 {w0 w : World} {p : Nat} {T : TypeId} (hb : Below w0.heap.size w0 w) (hp : w0.heap.size ≤ p) (h : Blk w p zC T) (v0 v1 v2 v3 v4 v5 v6 v7 v8 : Value) (w' : World)
    (hw : (((((((((w.setCell ⟨p, 0, none⟩ v0).setCell ⟨p, 1, none⟩ v1).setCell ⟨p, 2, none⟩ v2).setCell ⟨p, 3, none⟩ v3).setCell ⟨p, 4, none⟩ v4).setCell ⟨p, 5, none⟩ v5).setCell ⟨p, 6, none⟩ v6).setCell ⟨p, 7, none⟩ v7).setCell ⟨p, 8, none⟩ v8) = w') :
    Below w0.heap.size w0 w' ∧ (∀ b, b ≠ p → ∀ o, w'.cell? ⟨b, o, none⟩ = w.cell? ⟨b, o, none⟩) ∧ w'.heap.size = w.heap.size ∧ w'.cell? ⟨p, 0, none⟩ = some v0 ∧ w'.cell? ⟨p, 1, none⟩ = some v1 ∧ w'.cell? ⟨p, 2, none⟩ = some v2 ∧ w'.cell? ⟨p, 3, none⟩ = some v3 ∧ w'.cell? ⟨p, 4, none⟩ = some v4 ∧ w'.cell? ⟨p, 5, none⟩ = some v5 ∧ w'.cell? ⟨p, 6, none⟩ = some v6 ∧ w'.cell? ⟨p, 7, none⟩ = some v7 ∧ w'.cell? ⟨p, 8, none⟩ = some v8 := by
  subst hw
  have h9 := ((((((((h.set 0 v0).set 1 v1).set 2 v2).set 3 v3).set 4 v4).set 5 v5).set 6 v6).set 7 v7).set 8 v8
  have hcs : ((((((((zC.setIfInBounds 0 v0).setIfInBounds 1 v1).setIfInBounds 2 v2).setIfInBounds 3 v3).setIfInBounds 4 v4).setIfInBounds 5 v5).setIfInBounds 6 v6).setIfInBounds 7 v7).setIfInBounds 8 v8 = #[v0, v1, v2, v3, v4, v5, v6, v7, v8] := by
    simp
  rw [hcs] at h9
  clear hcs h
  have o1 : ∀ (w : World) (j : Nat) (v : Value) b, b ≠ p → ∀ o, (w.setCell ⟨p, j, none⟩ v).cell? ⟨b, o, none⟩ = w.cell? ⟨b, o, none⟩ := fun w j v b hb o =>
    World.cell?_of_block (w := w) (a := ⟨b, o, none⟩) (Below.heap_setCell _ _ _ _ (fun e => hb e))
  refine ⟨?_, fun b hb o => ?_, by simp [World.setCell], (h9.cell 0).trans rfl, (h9.cell 1).trans rfl, (h9.cell 2).trans rfl, (h9.cell 3).trans rfl, (h9.cell 4).trans rfl, (h9.cell 5).trans rfl, (h9.cell 6).trans rfl, (h9.cell 7).trans rfl, (h9.cell 8).trans rfl⟩
  · exact ((((((((hb.setCell (p := ⟨p, 0, none⟩) hp v0).setCell (p := ⟨p, 1, none⟩) hp v1).setCell (p := ⟨p, 2, none⟩) hp v2).setCell (p := ⟨p, 3, none⟩) hp v3).setCell (p := ⟨p, 4, none⟩) hp v4).setCell (p := ⟨p, 5, none⟩) hp v5).setCell (p := ⟨p, 6, none⟩) hp v6).setCell (p := ⟨p, 7, none⟩) hp v7).setCell (p := ⟨p, 8, none⟩) hp v8
  · rw [o1 _ _ _ _ hb, o1 _ _ _ _ hb, o1 _ _ _ _ hb, o1 _ _ _ _ hb, o1 _ _ _ _ hb, o1 _ _ _ _ hb, o1 _ _ _ _ hb, o1 _ _ _ _ hb, o1 _ _ _ _ hb]
end Go.Proofs.YtbbcjclkklmoaaaDoor
