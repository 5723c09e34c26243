/- The proof's texts TrRf, AdMd: what the claim reaches of them. -/
import Derived.Test.YtmpihhhjkkokfaaGreatDoorAd201
import Derived.Test.YtmpihhhjkkokfaaGreatDoorAd228
import Derived.Test.YtmpihhhjkkokfaaGreatDoorAd205
import Derived.Test.YtmpihhhjkkokfaaGreatDoorAd212
import Derived.Deep.CutBlock
import Derived.Deep.RegionHeld3
import Derived.Test.YtmpihhhjkkokfaaGreatDoorAd229
namespace Go.Proofs.YtmpihhhjkkokfaaGreatDoor
def tjpart (x : Tr) : List Tr := if x.kind = 0 then [] else if x.kind = 2 then x.parts else [x]
def mkT (k : Int) (l : List Tr) : Tr := match l with
 | [] => tz
 | [x] => x
 | xs => .mk k oz 0 0 0 xs
def tjoin (l : List Tr) : Tr := mkT 2 (l.flatMap tjpart)
theorem tflat_take (f : Tr → List Tr) (l : List Tr) (k : Nat) (h : k < l.length) : (l.take (k + 1)).flatMap f = (l.take k).flatMap f ++ f l[k] := by
 rw [List.take_succ_eq_append_getElem h, List.flatMap_append]
 simp
theorem tflat_le (f : Tr → List Tr) (l : List Tr) (k : Nat) : ((l.take k).flatMap f).length ≤ (l.flatMap f).length := by
 have h := congrArg List.length (congrArg (List.flatMap f) (List.take_append_drop k l))
 rw [List.flatMap_append, List.length_append] at h
 omega
end Go.Proofs.YtmpihhhjkkokfaaGreatDoor
namespace Go.Proofs.YtmpihhhjkkokfaaGreatDoor
open Go Go.RowKit
def TrF (F : Nat → Prop) : Nat → World → Tr → Option Addr → Nat → Prop
 | 0, _, _, _, _ => False
 | n + 1, w, t, a, cap => t.parts.length ≤ cap ∧ cap ≤ maxLen ∧ (0 < t.parts.length → ∃ b o, a = some ⟨b, o, none⟩ ∧ F b ∧ b < w.heap.size ∧ ∀ i (h : i < t.parts.length), ∃ a' cap', Cl9 w b (o + i * 9) t.parts[i] a' cap' ∧ TrF F n w t.parts[i] a' cap')
theorem Cl9.same {w w' : World} {b o : Nat} {t : Tr} {a : Option Addr} {cap : Nat} (h : Cl9 w b o t a cap) (hs : ∀ o, w'.cell? ⟨b, o, none⟩ = w.cell? ⟨b, o, none⟩) : Cl9 w' b o t a cap :=
 ⟨(hs _).trans h.k, (hs _).trans h.s0, (hs _).trans h.s1, (hs _).trans h.s2, (hs _).trans h.s3, (hs _).trans h.p, (hs _).trans h.mn, (hs _).trans h.mx, (hs _).trans h.num⟩
theorem TrF.keep {F G : Nat → Prop} {w w' : World} (hs : w.heap.size ≤ w'.heap.size) (hF : ∀ b, F b → b < w.heap.size → G b ∧ ∀ o, w'.cell? ⟨b, o, none⟩ = w.cell? ⟨b, o, none⟩) :
  ∀ (n : Nat) (t : Tr) (a : Option Addr) (cap : Nat), TrF F n w t a cap → TrF G n w' t a cap := by
 intro n
 induction n with
 | zero => intro t a cap h; exact h
 | succ n ih =>
  intro t a cap h
  unfold TrF at h ⊢
  refine ⟨h.1, h.2.1, fun h0 => ?_⟩
  obtain ⟨b, o, rfl, hf, hlt, hk⟩ := h.2.2 h0
  refine ⟨b, o, rfl, (hF b hf hlt).1, Nat.lt_of_lt_of_le hlt hs, fun i hi => ?_⟩
  obtain ⟨a', cap', h9, hr⟩ := hk i hi
  exact ⟨a', cap', h9.same (hF b hf hlt).2, ih _ _ _ hr⟩
theorem TrF.more {F : Nat → Prop} {w : World} : ∀ (n m : Nat) (t : Tr) (a : Option Addr) (cap : Nat), n ≤ m → TrF F n w t a cap → TrF F m w t a cap := by
 intro n
 induction n with
 | zero => intro m t a cap _ h; exact h.elim
 | succ n ih =>
  intro m t a cap hm h
  obtain ⟨m, rfl⟩ : ∃ m', m = m' + 1 := ⟨m - 1, by omega⟩
  unfold TrF at h ⊢
  refine ⟨h.1, h.2.1, fun h0 => ?_⟩
  obtain ⟨b, o, rfl, hf, hlt, hk⟩ := h.2.2 h0
  refine ⟨b, o, rfl, hf, hlt, fun i hi => ?_⟩
  obtain ⟨a', cap', h9, hr⟩ := hk i hi
  exact ⟨a', cap', h9, ih _ _ _ _ (by omega) hr⟩
theorem TrF.at {F : Nat → Prop} {w : World} : ∀ (n : Nat) (t : Tr) (a : Option Addr) (cap : Nat), TrF F n w t a cap → TrAt n w t a cap := by
 intro n
 induction n with
 | zero => intro t a cap h; exact h
 | succ n ih =>
  intro t a cap h
  unfold TrF at h
  unfold TrAt
  refine ⟨h.1, h.2.1, fun h0 => ?_⟩
  obtain ⟨b, o, rfl, hf, hlt, hk⟩ := h.2.2 h0
  refine ⟨b, o, rfl, hlt, fun i hi => ?_⟩
  obtain ⟨a', cap', h9, hr⟩ := hk i hi
  exact ⟨a', cap', h9, ih _ _ _ hr⟩
theorem TrF.of {w : World} : ∀ (n : Nat) (t : Tr) (a : Option Addr) (cap : Nat), TrAt n w t a cap → TrF (fun b => b < w.heap.size) n w t a cap := by
 intro n
 induction n with
 | zero => intro t a cap h; exact h
 | succ n ih =>
  intro t a cap h
  unfold TrAt at h
  unfold TrF
  refine ⟨h.1, h.2.1, fun h0 => ?_⟩
  obtain ⟨b, o, rfl, hlt, hk⟩ := h.2.2 h0
  refine ⟨b, o, rfl, hlt, hlt, fun i hi => ?_⟩
  obtain ⟨a', cap', h9, hr⟩ := hk i hi
  exact ⟨a', cap', h9, ih _ _ _ hr⟩
def TrX (F : Nat → Prop) (w : World) (t : Tr) (a : Option Addr) (cap : Nat) : Prop := ∃ n, TrF F n w t a cap
def TrRw (F : Nat → Prop) (w : World) (l : List Tr) (a : Option Addr) (cap : Nat) : Prop :=
 l.length ≤ cap ∧ cap ≤ maxLen ∧ (0 < l.length → ∃ b o, a = some ⟨b, o, none⟩ ∧ F b ∧ b < w.heap.size ∧ ∀ i (h : i < l.length), ∃ a' cap', Cl9 w b (o + i * 9) l[i] a' cap' ∧ TrX F w l[i] a' cap')
theorem TrX.keep {F G : Nat → Prop} {w w' : World} (hs : w.heap.size ≤ w'.heap.size) (hF : ∀ b, F b → b < w.heap.size → G b ∧ ∀ o, w'.cell? ⟨b, o, none⟩ = w.cell? ⟨b, o, none⟩) {t : Tr} {a : Option Addr} {cap : Nat} (h : TrX F w t a cap) : TrX G w' t a cap := by
 obtain ⟨n, h⟩ := h
 exact ⟨n, TrF.keep hs hF _ _ _ _ h⟩
theorem TrRw.keep {F G : Nat → Prop} {w w' : World} (hs : w.heap.size ≤ w'.heap.size) (hF : ∀ b, F b → b < w.heap.size → G b ∧ ∀ o, w'.cell? ⟨b, o, none⟩ = w.cell? ⟨b, o, none⟩) {l : List Tr} {a : Option Addr} {cap : Nat} (h : TrRw F w l a cap) : TrRw G w' l a cap := by
 refine ⟨h.1, h.2.1, fun h0 => ?_⟩
 obtain ⟨b, o, rfl, hf, hlt, hk⟩ := h.2.2 h0
 refine ⟨b, o, rfl, (hF b hf hlt).1, Nat.lt_of_lt_of_le hlt hs, fun i hi => ?_⟩
 obtain ⟨a', cap', h9, hr⟩ := hk i hi
 exact ⟨a', cap', h9.same (hF b hf hlt).2, hr.keep hs hF⟩
theorem TrX.below {F : Nat → Prop} {w w' : World} (hb : Below w.heap.size w w') {t : Tr} {a : Option Addr} {cap : Nat} (h : TrX F w t a cap) : TrX F w' t a cap :=
 h.keep hb.size (fun b hf hlt => ⟨hf, fun o => hb.cell (p := ⟨b, o, none⟩) hlt⟩)
theorem TrRw.below {F : Nat → Prop} {w w' : World} (hb : Below w.heap.size w w') {l : List Tr} {a : Option Addr} {cap : Nat} (h : TrRw F w l a cap) : TrRw F w' l a cap :=
 h.keep hb.size (fun b hf hlt => ⟨hf, fun o => hb.cell (p := ⟨b, o, none⟩) hlt⟩)
theorem TrX.wide {F : Nat → Prop} {w : World} {t : Tr} {a : Option Addr} {cap : Nat} (h : TrX F w t a cap) : TrX (fun _ => True) w t a cap := h.keep (Nat.le_refl _) (fun _ _ _ => ⟨trivial, fun _ => rfl⟩)
theorem TrX.trd {F : Nat → Prop} {w : World} {t : Tr} {a : Option Addr} {cap : Nat} (h : TrX F w t a cap) : ∃ N, TrD N w t a cap := by
 obtain ⟨n, h⟩ := h
 exact ⟨2 * n + 1, n, TrF.at _ _ _ _ h, by have := kb_le t; omega⟩
theorem TrX.of {n : Nat} {w : World} {t : Tr} {a : Option Addr} {cap : Nat} (h : TrAt n w t a cap) : TrX (fun b => b < w.heap.size) w t a cap := ⟨n, TrF.of _ _ _ _ h⟩
theorem TrRw.up {F : Nat → Prop} {w : World} {t : Tr} {a : Option Addr} {cap : Nat} (h : TrRw F w t.parts a cap) : TrX F w t a cap := by
 by_cases h0 : 0 < t.parts.length
 ·obtain ⟨b, o, rfl, hf, hlt, hk⟩ := h.2.2 h0
  have hone : ∀ i, i < t.parts.length → ∃ N : Nat, ∀ (h : i < t.parts.length), ∃ a' cap', Cl9 w b (o + i * 9) t.parts[i] a' cap' ∧ TrF F N w t.parts[i] a' cap' := fun i hi => by
   obtain ⟨a', cap', h9, n, hr⟩ := hk i hi
   exact ⟨n, fun _ => ⟨a', cap', h9, hr⟩⟩
  obtain ⟨N, hN⟩ := Go.Deep.fuel_lt (q := fun i N => ∀ (h : i < t.parts.length), ∃ a' cap', Cl9 w b (o + i * 9) t.parts[i] a' cap' ∧ TrF F N w t.parts[i] a' cap') (fun i m n hmn hq hi => by
   obtain ⟨a', cap', h9, hr⟩ := hq hi
   exact ⟨a', cap', h9, TrF.more _ _ _ _ _ hmn hr⟩) hone
  exact ⟨N + 1, h.1, h.2.1, fun _ => ⟨b, o, rfl, hf, hlt, fun i hi => hN i hi hi⟩⟩
 ·exact ⟨1, h.1, h.2.1, fun h => absurd h h0⟩
theorem TrX.down {F : Nat → Prop} {w : World} {t : Tr} {a : Option Addr} {cap : Nat} (h : TrX F w t a cap) : TrRw F w t.parts a cap := by
 obtain ⟨n, h⟩ := h
 cases n with
 | zero => exact h.elim
 | succ n =>
  refine ⟨h.1, h.2.1, fun h0 => ?_⟩
  obtain ⟨b, o, rfl, hf, hlt, hk⟩ := h.2.2 h0
  refine ⟨b, o, rfl, hf, hlt, fun i hi => ?_⟩
  obtain ⟨a', cap', h9, hr⟩ := hk i hi
  exact ⟨a', cap', h9, n, hr⟩
theorem TrRw.nil (F : Nat → Prop) (w : World) (a : Option Addr) (cap : Nat) (h : cap ≤ maxLen) : TrRw F w [] a cap := ⟨Nat.zero_le _, h, fun h => absurd h (by simp)⟩
def Chunks (F : Nat → Prop) (w : World) : List Tr → List Value → Prop
 | [], us => us = []
 | x :: xs, us => ∃ a cap us', us = (tC x a cap).toList ++ us' ∧ TrX F w x a cap ∧ Chunks F w xs us'
theorem Chunks.append {F : Nat → Prop} {w : World} : ∀ {l m : List Tr} {us vs : List Value}, Chunks F w l us → Chunks F w m vs → Chunks F w (l ++ m) (us ++ vs)
 | [], m, us, vs, h, k => by rw [show us = [] from h]; exact k
 | x :: xs, m, us, vs, h, k => by
  obtain ⟨a, cap, us', rfl, hx, hr⟩ := h
  exact ⟨a, cap, us' ++ vs, by rw [List.append_assoc], hx, Chunks.append hr k⟩
theorem Chunks.keep {F G : Nat → Prop} {w w' : World} (hs : w.heap.size ≤ w'.heap.size) (hF : ∀ b, F b → b < w.heap.size → G b ∧ ∀ o, w'.cell? ⟨b, o, none⟩ = w.cell? ⟨b, o, none⟩) : ∀ {l : List Tr} {us : List Value}, Chunks F w l us → Chunks G w' l us
 | [], _, h => h
 | x :: xs, us, h => by
  obtain ⟨a, cap, us', rfl, hx, hr⟩ := h
  exact ⟨a, cap, us', rfl, hx.keep hs hF, Chunks.keep hs hF hr⟩
theorem Chunks.len {F : Nat → Prop} {w : World} : ∀ {l : List Tr} {us : List Value}, Chunks F w l us → us.length = l.length * 9
 | [], us, h => by rw [show us = [] from h]; rfl
 | x :: xs, us, h => by
  obtain ⟨a, cap, us', rfl, hx, hr⟩ := h
  rw [List.length_append, hr.len, List.length_cons]
  simp
  omega
theorem Chunks.one {F : Nat → Prop} {w : World} : ∀ {l : List Tr} {us : List Value}, Chunks F w l us → ∀ u ∈ us, u.oneCell' = true
 | [], us, h => by rw [show us = [] from h]; intro u hu; simp at hu
 | x :: xs, us, h => by
  obtain ⟨a, cap, us', rfl, hx, hr⟩ := h
  intro u hu
  rcases List.mem_append.1 hu with hu | hu
  ·simp at hu
   rcases hu with rfl | rfl | rfl | rfl | rfl | rfl | rfl | rfl | rfl <;> rfl
  ·exact hr.one u hu
theorem Chunks.single {F : Nat → Prop} {w : World} {x : Tr} {a : Option Addr} {cap : Nat} (h : TrX F w x a cap) : Chunks F w [x] (tC x a cap).toList := ⟨a, cap, [], by simp, h, rfl⟩
theorem Chunks.at {F : Nat → Prop} {w : World} : ∀ {l : List Tr} {us : List Value} {b o : Nat}, Chunks F w l us → (∀ j u, us[j]? = some u → w.cell? ⟨b, o + j, none⟩ = some u) → ∀ i (h : i < l.length), ∃ a' cap', Cl9 w b (o + i * 9) l[i] a' cap' ∧ TrX F w l[i] a' cap'
 | [], _, _, _, _, _, i, h => absurd h (by simp)
 | x :: xs, us, b, o, h, hc, i, hi => by
  obtain ⟨a, cap, us', rfl, hx, hr⟩ := h
  cases i with
  | zero =>
   have hj : ∀ j v, (tC x a cap)[j]? = some v → w.cell? ⟨b, o + j, none⟩ = some v := fun j v hv => hc j v (by
    have hlt : j < (tC x a cap).toList.length := by
     rw [Array.length_toList]
     exact (Array.getElem?_eq_some_iff.1 hv).1
    rw [List.getElem?_append_left hlt, Array.getElem?_toList]; exact hv)
   refine ⟨a, cap, ?_, hx⟩
   rw [Nat.zero_mul, Nat.add_zero]
   exact ⟨hj 0 _ rfl, hj 1 _ rfl, hj 2 _ rfl, hj 3 _ rfl, hj 4 _ rfl, hj 5 _ rfl, hj 6 _ rfl, hj 7 _ rfl, hj 8 _ rfl⟩
  | succ i =>
   have h2 := Chunks.at (b := b) (o := o + 9) hr (fun j u hu => by
    have := hc (9 + j) u (by
     rw [List.getElem?_append_right (by simp)]
     simpa using hu)
    rw [← Nat.add_assoc] at this
    exact this) i (by simpa using hi)
   rw [show o + 9 + i * 9 = o + (i + 1) * 9 by omega] at h2
   exact h2
theorem chunks_of {F : Nat → Prop} {w : World} : ∀ {l : List Tr} {b o : Nat}, (∀ i (h : i < l.length), ∃ a' cap', Cl9 w b (o + i * 9) l[i] a' cap' ∧ TrX F w l[i] a' cap') → ∃ us, Chunks F w l us ∧ ∀ j u, us[j]? = some u → w.cell? ⟨b, o + j, none⟩ = some u
 | [], _, _, _ => ⟨[], rfl, fun j u hu => by simp at hu⟩
 | x :: xs, b, o, h => by
  obtain ⟨a, cap, h9, hx⟩ := h 0 (by simp)
  obtain ⟨us', hr, hc⟩ := chunks_of (l := xs) (b := b) (o := o + 9) (fun i hi => by
   have h2 := h (i + 1) (by simpa using hi)
   rw [show o + (i + 1) * 9 = o + 9 + i * 9 by omega] at h2
   exact h2)
  refine ⟨(tC x a cap).toList ++ us', ⟨a, cap, us', rfl, hx, hr⟩, fun j u hu => ?_⟩
  rw [Nat.zero_mul, Nat.add_zero] at h9
  by_cases hj : j < 9
  ·rw [List.getElem?_append_left (by simpa using hj)] at hu
   obtain ⟨c0, c1, c2, c3, c4, c5, c6, c7, c8⟩ := h9
   match j, hj, hu with
   | 0, _, hu => simp at hu; subst hu; exact c0
   | 1, _, hu => simp at hu; subst hu; exact c1
   | 2, _, hu => simp at hu; subst hu; exact c2
   | 3, _, hu => simp at hu; subst hu; exact c3
   | 4, _, hu => simp at hu; subst hu; exact c4
   | 5, _, hu => simp at hu; subst hu; exact c5
   | 6, _, hu => simp at hu; subst hu; exact c6
   | 7, _, hu => simp at hu; subst hu; exact c7
   | 8, _, hu => simp at hu; subst hu; exact c8
  ·rw [List.getElem?_append_right (by simp; omega)] at hu
   have := hc (j - 9) u (by simpa using hu)
   rw [show o + 9 + (j - 9) = o + j by omega] at this
   exact this
theorem TrRw.news {F : Nat → Prop} {w : World} {l : List Tr} {a : Option Addr} {cap : Nat} (h : TrRw F w l a cap) : ∃ us, Chunks F w l us ∧ (0 < l.length → ∃ a', a = some a' ∧ ∀ j u, us[j]? = some u → w.cell? (a'.add j) = some u) := by
 by_cases h0 : 0 < l.length
 ·obtain ⟨b, o, rfl, hf, hlt, hk⟩ := h.2.2 h0
  obtain ⟨us, h1, h2⟩ := chunks_of hk
  exact ⟨us, h1, fun _ => ⟨_, rfl, fun j u hu => by rw [Go.WideShapes.add_plain]; exact h2 j u hu⟩⟩
 ·have : l = [] := List.eq_nil_of_length_eq_zero (by omega)
  subst this
  exact ⟨[], rfl, fun h => absurd h h0⟩
def OffV (v : Value) (b : Nat) : Prop := v.ownBlock ≠ some b
def TOwn (G : Nat → Prop) (B : Nat) (w : World) (l : List Tr) (v : Value) (us : List Value) : Prop :=
 w.ownsRow B 38 9 v l.length us ∧ Chunks (fun b => G b ∧ OffV v b) w l us
theorem TOwn.nil (G : Nat → Prop) (B : Nat) (w : World) : TOwn G B w [] (.slice none 0 0) [] := ⟨World.ownsRow_nil _ _ _ _, rfl⟩
theorem TOwn.below {G : Nat → Prop} {B : Nat} {w w' : World} {l : List Tr} {v : Value} {us : List Value} (h : TOwn G B w l v us) (hb : Below w.heap.size w w') : TOwn G B w' l v us :=
 ⟨nd_own_below h.1 hb, h.2.keep hb.size (fun b hf hlt => ⟨hf, fun o => hb.cell (p := ⟨b, o, none⟩) hlt⟩)⟩
theorem off_keep {G : Nat → Prop} {w w' : World} {v v' : Value} (hg : w.grownBy w' v.ownBlock) (hat : v'.ownBlock = v.ownBlock ∨ v'.ownBlock = some w.heap.size) : ∀ b, (G b ∧ OffV v b) → b < w.heap.size → (G b ∧ OffV v' b) ∧ ∀ o, w'.cell? ⟨b, o, none⟩ = w.cell? ⟨b, o, none⟩ :=
 fun b hf hlt => ⟨⟨hf.1, by
  rcases hat with e | e
  ·unfold OffV; rw [e]; exact hf.2
  ·unfold OffV; rw [e]; intro he; injection he with he; omega⟩, fun o => World.cell?_of_block (w := w) (a := ⟨b, o, none⟩) (hg.block b hlt (fun e => hf.2 e.symm))⟩
theorem TOwn.push {G : Nat → Prop} {B : Nat} {w w' : World} {l m : List Tr} {v v' : Value} {us vs : List Value} (h : TOwn G B w l v us) (hm : Chunks (fun b => G b ∧ OffV v b) w m vs) (hown : w'.ownsRow B 38 9 v' (l.length + m.length) (us ++ vs)) (hg : w.grownBy w' v.ownBlock) (hat : v'.ownBlock = v.ownBlock ∨ v'.ownBlock = some w.heap.size) : TOwn G B w' (l ++ m) v' (us ++ vs) :=
 ⟨by rw [List.length_append]; exact hown, (h.2.append hm).keep hg.size (off_keep hg hat)⟩
theorem TOwn.row {G : Nat → Prop} {B : Nat} {w : World} {l : List Tr} {v : Value} {us : List Value} (h : TOwn G B w l v us) : ∃ a cap, v = .slice a l.length cap ∧ TrRw (fun b => G b ∨ B ≤ b) w l a cap := by
 obtain ⟨⟨h1, h2⟩, h3⟩ := h
 rcases h2 with ⟨rfl, hz⟩ | ⟨g, cap, cur, rfl, hg, hh, hn, hcap, hcs, htk⟩
 ·exact ⟨none, 0, by rw [hz], by omega, Nat.zero_le _, fun h => by omega⟩
 ·refine ⟨some ⟨g, 0, none⟩, cap, rfl, hn, hcap, fun h0 => ⟨g, 0, rfl, .inr hg, (Array.getElem?_eq_some_iff.1 hh).1, ?_⟩⟩
  have hc : Chunks (fun b => G b ∨ B ≤ b) w l us := h3.keep (Nat.le_refl _) (fun _ hf _ => ⟨.inl hf.1, fun _ => rfl⟩)
  exact hc.at (fun j u hu => by
   have hj : j < l.length * 9 := by rw [← h1]; exact (List.getElem?_eq_some_iff.1 hu).1
   have h4 : w.cell? ⟨g, 0 + j, none⟩ = cur[j]? := by simp [World.cell?, hh]
   have h5 : (cur.toList.take (l.length * 9))[j]? = us[j]? := by rw [htk]
   rw [List.getElem?_take_of_lt hj] at h5
   rw [h4, ← Array.getElem?_toList, h5, hu])
theorem t_info : ∃ i, Tryz.prog.info? 38 = some i ∧ i.zero = some (.agg zC) ∧ i.size = 9 ∧ i.bytes = 88 := by
 have h : (Tryz.prog.info? 38).map (fun i => (i.zero, i.size, i.bytes)) = some (some (.agg zC), 9, 88) := by kernel_rfl
 obtain ⟨i, hi, he⟩ := Option.map_eq_some_iff.1 h
 injection he with h1 h2
 injection h2 with h2 h3
 exact ⟨i, hi, h1, h2, h3⟩
theorem news_new (w : World) (x : Tr) (a : Option Addr) (cap : Nat) (T : TypeId) (g : Nat) (hg : g = w.heap.size) : ∀ j u, (tC x a cap).toList[j]? = some u → (w.alloc (.cells (tC x a cap) T)).cell? ((⟨g, 0, none⟩ : Addr).add j) = some u := by
 have h := Blk.new w (tC x a cap) T g hg
 intro j u hu
 rw [Go.WideShapes.add_plain, Nat.zero_add, h.cell j, ← Array.getElem?_toList]
 exact hu
theorem put9 {w0 w : World} {p : Nat} {T : TypeId} (hb : Below w0.heap.size w0 w) (hp : w0.heap.size ≤ p) (h : Blk w p zC T) (v0 v1 v2 v3 v4 v5 v6 v7 v8 : Value) (w' : World)
  (hw : (((((((((w.setCell ⟨p, 0, none⟩ v0).setCell ⟨p, 1, none⟩ v1).setCell ⟨p, 2, none⟩ v2).setCell ⟨p, 3, none⟩ v3).setCell ⟨p, 4, none⟩ v4).setCell ⟨p, 5, none⟩ v5).setCell ⟨p, 6, none⟩ v6).setCell ⟨p, 7, none⟩ v7).setCell ⟨p, 8, none⟩ v8) = w') :
  Below w0.heap.size w0 w' ∧ (∀ b, b ≠ p → ∀ o, w'.cell? ⟨b, o, none⟩ = w.cell? ⟨b, o, none⟩) ∧ w'.heap.size = w.heap.size ∧ w'.cell? ⟨p, 0, none⟩ = some v0 ∧ w'.cell? ⟨p, 1, none⟩ = some v1 ∧ w'.cell? ⟨p, 2, none⟩ = some v2 ∧ w'.cell? ⟨p, 3, none⟩ = some v3 ∧ w'.cell? ⟨p, 4, none⟩ = some v4 ∧ w'.cell? ⟨p, 5, none⟩ = some v5 ∧ w'.cell? ⟨p, 6, none⟩ = some v6 ∧ w'.cell? ⟨p, 7, none⟩ = some v7 ∧ w'.cell? ⟨p, 8, none⟩ = some v8 := by
 subst hw
 have h9 := ((((((((h.set 0 v0).set 1 v1).set 2 v2).set 3 v3).set 4 v4).set 5 v5).set 6 v6).set 7 v7).set 8 v8
 have hcs : ((((((((zC.setIfInBounds 0 v0).setIfInBounds 1 v1).setIfInBounds 2 v2).setIfInBounds 3 v3).setIfInBounds 4 v4).setIfInBounds 5 v5).setIfInBounds 6 v6).setIfInBounds 7 v7).setIfInBounds 8 v8 = #[v0, v1, v2, v3, v4, v5, v6, v7, v8] := by
  simp
 rw [hcs] at h9
 clear hcs h
 have o1 : ∀ (w : World) (j : Nat) (v : Value) b, b ≠ p → ∀ o, (w.setCell ⟨p, j, none⟩ v).cell? ⟨b, o, none⟩ = w.cell? ⟨b, o, none⟩ := fun w j v b hb o =>
  World.cell?_of_block (w := w) (a := ⟨b, o, none⟩) (Below.heap_setCell _ _ _ _ (fun e => hb e))
 refine ⟨?_, fun b hb o => ?_, by simp [World.setCell], (h9.cell 0).trans rfl, (h9.cell 1).trans rfl, (h9.cell 2).trans rfl, (h9.cell 3).trans rfl, (h9.cell 4).trans rfl, (h9.cell 5).trans rfl, (h9.cell 6).trans rfl, (h9.cell 7).trans rfl, (h9.cell 8).trans rfl⟩
 ·exact ((((((((hb.setCell (p := ⟨p, 0, none⟩) hp v0).setCell (p := ⟨p, 1, none⟩) hp v1).setCell (p := ⟨p, 2, none⟩) hp v2).setCell (p := ⟨p, 3, none⟩) hp v3).setCell (p := ⟨p, 4, none⟩) hp v4).setCell (p := ⟨p, 5, none⟩) hp v5).setCell (p := ⟨p, 6, none⟩) hp v6).setCell (p := ⟨p, 7, none⟩) hp v7).setCell (p := ⟨p, 8, none⟩) hp v8
 ·rw [o1 _ _ _ _ hb, o1 _ _ _ _ hb, o1 _ _ _ _ hb, o1 _ _ _ _ hb, o1 _ _ _ _ hb, o1 _ _ _ _ hb, o1 _ _ _ _ hb, o1 _ _ _ _ hb, o1 _ _ _ _ hb]
end Go.Proofs.YtmpihhhjkkokfaaGreatDoor
namespace Go.Proofs.YtmpihhhjkkokfaaGreatDoor
open Go Go.RowKit
theorem Blk.grown {w w' : World} {b : Nat} {cs : Array Value} {T : TypeId} {r : Option Nat} (h : Blk w b cs T) (hg : w.grownBy w' r) (hr : ∀ k, r = some k → b < k) : Blk w' b cs T := by
 have hlt := h.lt
 unfold Blk at h ⊢
 rw [hg.block b hlt (fun e => by have := hr b e.symm; omega)]
 exact h
set_option linter.unusedSimpArgs false in
set_option maxRecDepth 100000 in
set_option maxHeartbeats 8000000 in
theorem rjoin_f {F : Nat → Prop} (l : List Tr) (a : Option Addr) (cap : Nat) (w : World) (h : TrRw F w l a cap) (hsz : (l.flatMap tjpart).length ≤ 4000000) (hsl : l.length ≤ 4000000) :
  Calls Tryz.prog 25 #[.slice a l.length cap] w fun e w' => ∃ a' cap', e = .returned (tV (tjoin l) a' cap') ∧ TrX (fun b => F b ∨ w.heap.size ≤ b) w' (tjoin l) a' cap' ∧ Below w.heap.size w w' := by
 obtain ⟨i0, hi, hz0, hz1, hz2⟩ := t_info
 obtain ⟨J, hJ⟩ : ∃ J, J = tjoin l := ⟨_, rfl⟩
 rw [← hJ]
 have HJ0 : Hid (J = mkT 2 (l.flatMap tjpart)) := Lib.hid hJ
 clear hJ
 have hin : TrRw (fun b => F b ∧ b < w.heap.size) w l a cap := h.keep (Nat.le_refl _) (fun b hf hl => ⟨⟨hf, hl⟩, fun _ => rfl⟩)
 have hl1 := h.1
 have hl2 := h.2.1
 unfold maxLen at hl2
 clear h
 have Hsz := Lib.hid hsz
 clear hsz
 have hP0 := Blk.new w zC 38 w.heap.size rfl
 have hB0 := (Below.refl w.heap.size w).alloc (Nat.le_refl _) (.cells zC 38)
 go_enter Tryz.func25, Tryz.ntmps25
 go_wp2_with fail
 go_loopw [3, 7] (fun s i wr => ∃ (k : Nat) (us : List Value) (pv : Value), k ≤ l.length ∧ i = .int .i64 k ∧ pv = s ∧ TOwn (fun b => F b ∧ b < w.heap.size) (w.heap.size + 1) wr ((l.take k).flatMap tjpart) pv us ∧ Blk wr w.heap.size zC 38 ∧ Below w.heap.size w wr) (fun _ i _ => l.length - (intOf i).toNat)
 case atStart => exact ⟨0, [], _, by omega, rfl, rfl, TOwn.nil _ _ _, hP0, hB0⟩
 case round =>
  clear hP0 hB0
  obtain ⟨k, us, pv, hk, rfl, hpv, hO, hP, hV⟩ := hrel
  subst hpv
  have hlow : ∀ b, b < w.heap.size → OffV pv b := fun b hb e => by have := own_of hO.1 b e; omega
  by_cases hlt : k < l.length
  ·have hrow : TrRw (fun b => F b ∧ b < w.heap.size) wr l a cap := hin.keep hV.size (fun b hf hl => ⟨hf, fun o => hV.cell (p := ⟨b, o, none⟩) hf.2⟩)
   obtain ⟨b, o, rfl, hbF, hbl, hx⟩ := hrow.2.2 (by omega)
   obtain ⟨a', cap', h9, hxx⟩ := hx k hlt
   have Htk := Lib.hid (tflat_take tjpart l k hlt)
   have hfl := tflat_le tjpart l (k + 1)
   rw [Htk.out, List.length_append] at hfl
   have hfl2 : ((l.take k).flatMap tjpart).length + (tjpart l[k]).length ≤ 4000000 := Nat.le_trans hfl Hsz.out
   obtain ⟨c0, c1, c2, c3, c4, c5, c6, c7, c8⟩ := h9
   have hprt := hxx.down
   have hpl := hprt.1
   have hpm := hprt.2.1
   unfold maxLen at hpm
   clear hx hfl hrow
   generalize l[k] = x at *
   have Hh := Lib.hid hlow
   clear hlow
   by_cases k0 : x.kind = 0
   ·have e0 : (x.kind == 0) = true := by simp [k0]
    have Ht : Hid (tjpart x = []) := Lib.hid (by unfold tjpart; rw [if_pos k0])
    clear k0 c1 c2 c3 c4 c5 c6 c7 c8
    go_wp2_with fail
    go_roundw
    case rel => exact ⟨k + 1, us, pv, by omega, by go_num, rfl, by rw [Htk.out, Ht.out, List.append_nil]; exact hO, hP, hV⟩
    case measure => simp [intOf]; omega
   ·have e0 : (x.kind == 0) = false := by simp [k0]
    by_cases k2 : x.kind = 2
    ·have e2 : (x.kind == 2) = true := by simp [k2]
     have Ht : Hid (tjpart x = x.parts) := Lib.hid (by unfold tjpart; rw [if_neg k0, if_pos k2])
     rw [Ht.out] at hfl2
     clear k2
     obtain ⟨vs, hch, hnews⟩ := hprt.news
     have hvl := hch.len
     have hv1 := hch.one
     have hch2 : Chunks (fun b => (F b ∧ b < w.heap.size) ∧ OffV pv b) wr x.parts vs := hch.keep (Nat.le_refl _) (fun b hf _ => ⟨⟨hf, Hh.out b hf.2⟩, fun _ => rfl⟩)
     have hm1 : ((l.take k).flatMap tjpart).length + x.parts.length ≤ maxLen := by unfold maxLen; omega
     have hm2 : (((l.take k).flatMap tjpart).length + x.parts.length) * 88 ≤ 140737488355328 := by omega
     have hwb : w.heap.size + 1 ≤ wr.heap.size := hP.lt
     have Hvl := Lib.hid hvl
     clear hvl hprt hch c1 c2 c3 c4 c6 c7 c8 hfl2
     go_wp2_with (at_builtin; refine wpList_append_any _ rfl _ _ 36 rfl (w.heap.size + 1) 38 i0 (.agg zC) 9 88 Tryz.underlying36 hi hz0 hz1 hz2 rfl (by decide) _ _ _ rfl hO.1 _ _ _ vs rfl Hvl.out hnews hv1 hm1 hm2 hwb ?_; intro v6 w6 hown6 hgrow6 hat6)
     have hO6 := hO.push hch2 hown6 hgrow6 hat6
     have hP6 := hP.grown hgrow6 (fun k hk => by have := own_of hO.1 k hk; omega)
     have hV6 := hV.grown hgrow6 hV.size (fun k hk => by have := own_of hO.1 k hk; omega)
     clear hO hP hV hown6 hgrow6 hat6
     go_wp2_with fail
     go_roundw
     case rel => exact ⟨k + 1, us ++ vs, v6, by omega, by go_num, rfl, by rw [Htk.out, Ht.out]; exact hO6, hP6, hV6⟩
     case measure => simp [intOf]; omega
    ·have e2 : (x.kind == 2) = false := by simp [k2]
     have Ht : Hid (tjpart x = [x]) := Lib.hid (by unfold tjpart; rw [if_neg k0, if_neg k2])
     rw [Ht.out] at hfl2
     clear k2
     have hwb : w.heap.size + 1 ≤ wr.heap.size := hP.lt
     have hch2 : Chunks (fun b => (F b ∧ b < w.heap.size) ∧ OffV pv b) wr [x] (tC x a' cap').toList := Chunks.single (hxx.keep (Nat.le_refl _) (fun b hf _ => ⟨⟨hf, Hh.out b hf.2⟩, fun _ => rfl⟩))
     have hv1 := hch2.one
     have hm1 : ((l.take k).flatMap tjpart).length + 1 ≤ maxLen := by unfold maxLen; simp only [List.length_cons, List.length_nil] at hfl2; omega
     have hm2 : (((l.take k).flatMap tjpart).length + 1) * 88 ≤ 140737488355328 := by simp only [List.length_cons, List.length_nil] at hfl2; omega
     have hA := (Below.refl wr.heap.size wr).alloc (Nat.le_refl _) (.cells (tC x a' cap') 38)
     have hOA := hO.below hA
     have hPA := hP.alloc (.cells (tC x a' cap') 38)
     have hVA := hV.alloc hV.size (.cells (tC x a' cap') 38)
     have hchA : Chunks (fun b => (F b ∧ b < w.heap.size) ∧ OffV pv b) (wr.alloc (.cells (tC x a' cap') 38)) [x] (tC x a' cap').toList := hch2.keep hA.size (fun b hf hl => ⟨hf, fun o => hA.cell (p := ⟨b, o, none⟩) hl⟩)
     have hnw := news_new wr x a' cap' 38 wr.heap.size rfl
     clear hprt hfl2 hch2
     go_wp2_with (at_builtin; refine wpList_append_any _ rfl _ _ 36 rfl (w.heap.size + 1) 38 i0 (.agg zC) 9 88 Tryz.underlying36 hi hz0 hz1 hz2 rfl (by decide) _ _ _ rfl hOA.1 (some ⟨wr.heap.size, 0, none⟩) 1 1 (tC x a' cap').toList rfl rfl (fun _ => ⟨_, rfl, hnw⟩) hv1 hm1 hm2 (by simp; omega) ?_; intro v6 w6 hown6 hgrow6 hat6)
     have hO6 := hOA.push hchA hown6 hgrow6 hat6
     have hP6 := hPA.grown hgrow6 (fun k hk => by have := own_of hOA.1 k hk; omega)
     have hV6 := hVA.grown hgrow6 hVA.size (fun k hk => by have := own_of hOA.1 k hk; omega)
     clear hO hP hV hown6 hgrow6 hat6 hOA hPA hVA hA hchA hnw c0 c1 c2 c3 c4 c5 c6 c7 c8
     go_wp2_with fail
     go_roundw
     case rel => exact ⟨k + 1, us ++ (tC x a' cap').toList, v6, by omega, by go_num, rfl, by rw [Htk.out, Ht.out]; exact hO6, hP6, hV6⟩
     case measure => simp [intOf]; omega
  ·obtain rfl : k = l.length := by omega
   rw [List.take_of_length_le (Nat.le_refl _)] at hO
   obtain ⟨a9, cap9, rfl, hR⟩ := hO.row
   have hszz := Hsz.out
   have HJ := Lib.hid HJ0.out
   clear HJ0 Hsz
   generalize l.flatMap tjpart = xs at *
   have p0 := (hP.cell 0).trans rfl
   have p1 := (hP.cell 1).trans rfl
   have p2 := (hP.cell 2).trans rfl
   have p3 := (hP.cell 3).trans rfl
   have p4 := (hP.cell 4).trans rfl
   have p5 := (hP.cell 5).trans rfl
   have p6 := (hP.cell 6).trans rfl
   have p7 := (hP.cell 7).trans rfl
   have p8 := (hP.cell 8).trans rfl
   have z0 := hP.frozen 0
   have z1 := hP.frozen 1
   have z2 := hP.frozen 2
   have z3 := hP.frozen 3
   have z4 := hP.frozen 4
   have z5 := hP.frozen 5
   have z6 := hP.frozen 6
   have z7 := hP.frozen 7
   have z8 := hP.frozen 8
   have hbl := hP.lt
   clear hO hin
   rcases xs with _ | ⟨x, _ | ⟨y, ys⟩⟩
   ·have HJ2 : Hid (J = tz) := Lib.hid HJ.out
    clear HJ
    obtain rfl := HJ2.out
    go_wp2_with fail
    obtain ⟨w9, hw9⟩ : ∃ w9, w9 = _ := ⟨_, rfl⟩
    obtain ⟨hB9, hk9, hs9, d0, d1, d2, d3, d4, d5, d6, d7, d8⟩ := put9 hV (Nat.le_refl _) hP _ _ _ _ _ _ _ _ _ w9 hw9.symm
    rw [← hw9]
    clear hw9
    refine bodyPost_ret (v := tV tz none 0) (by simp [results, Tryz.results25, go_sem, tV, tz, Tr.kind, Tr.set, Tr.parts, Tr.mn, Tr.mx, Tr.num, ow_zero, d0, d1, d2, d3, d4, d5, d6, d7, d8]) rfl ⟨none, 0, rfl, TrRw.up (TrRw.nil _ _ _ _ (Nat.zero_le _)), hB9⟩
   ·have HJ2 : Hid (J = x) := Lib.hid HJ.out
    clear HJ
    obtain rfl := HJ2.out
    obtain ⟨b, o, rfl, _, hbb, hx⟩ := hR.2.2 (by simp)
    obtain ⟨a', cap', h9, hxx⟩ := hx 0 (by simp)
    simp only [Nat.zero_mul, Nat.add_zero, List.getElem_cons_zero] at h9 hxx
    obtain ⟨c0, c1, c2, c3, c4, c5, c6, c7, c8⟩ := h9
    have hR1 := hR.1
    have hR2 := hR.2.1
    unfold maxLen at hR2
    clear hx hR
    simp only [List.length_cons, List.length_nil, Nat.zero_add] at hR1 ⊢
    go_wp2_with fail
    obtain ⟨w9, hw9⟩ : ∃ w9, w9 = _ := ⟨_, rfl⟩
    obtain ⟨hB9, hk9, hs9, d0, d1, d2, d3, d4, d5, d6, d7, d8⟩ := put9 hV (Nat.le_refl _) hP _ _ _ _ _ _ _ _ _ w9 hw9.symm
    rw [← hw9]
    clear hw9
    refine bodyPost_ret (v := tV J a' cap') (by simp [results, Tryz.results25, go_sem, tV, d0, d1, d2, d3, d4, d5, d6, d7, d8]) rfl ⟨a', cap', rfl, hxx.keep (by rw [hs9]; exact Nat.le_refl _) (fun b hf _ => ⟨hf.elim (fun h => .inl h.1) (fun h => .inr (Nat.le_of_succ_le h)), hk9 b (by rcases hf with h | h <;> omega)⟩), hB9⟩
   ·have HJ2 : Hid (J = .mk 2 oz 0 0 0 (x :: y :: ys)) := Lib.hid HJ.out
    clear HJ
    have e0 : (((x :: y :: ys).length : Int) == 0) = false := by simp; omega
    have e1 : (((x :: y :: ys).length : Int) == 1) = false := by simp; omega
    generalize x :: y :: ys = xs at *
    obtain rfl := HJ2.out
    go_wp2_with fail
    obtain ⟨w9, hw9⟩ : ∃ w9, w9 = _ := ⟨_, rfl⟩
    obtain ⟨hB9, hk9, hs9, d0, d1, d2, d3, d4, d5, d6, d7, d8⟩ := put9 hV (Nat.le_refl _) hP _ _ _ _ _ _ _ _ _ w9 hw9.symm
    rw [← hw9]
    clear hw9
    refine bodyPost_ret (v := tV (.mk 2 oz 0 0 0 xs) a9 cap9) (by simp [results, Tryz.results25, go_sem, tV, Tr.kind, Tr.set, Tr.parts, Tr.mn, Tr.mx, Tr.num, ow_zero, d0, d1, d2, d3, d4, d5, d6, d7, d8]) rfl ⟨a9, cap9, rfl, TrRw.up (t := .mk 2 oz 0 0 0 xs) (TrRw.keep (F := fun b => (F b ∧ b < w.heap.size) ∨ w.heap.size + 1 ≤ b) (by rw [hs9]; exact Nat.le_refl _) (fun b hf _ => ⟨hf.elim (fun h => .inl h.1) (fun h => .inr (Nat.le_of_succ_le h)), hk9 b (by rcases hf with h | h <;> omega)⟩) hR), hB9⟩
theorem rjoin_any {F : Nat → Prop} (l : List Tr) (a : Option Addr) (cap : Nat) (w : World) (h : TrRw F w l a cap) (hsz : (l.flatMap tjpart).length ≤ 4000000) (hsl : l.length ≤ 4000000) :
  Calls Tryz.prog 25 #[.slice a l.length cap] w fun e w' => ∃ a' cap', e = .returned (tV (tjoin l) a' cap') ∧ TrX (fun _ => True) w' (tjoin l) a' cap' ∧ Below w.heap.size w w' :=
 (rjoin_f l a cap w h hsz hsl).mono fun _ _ ⟨a', cap', h1, h2, h3⟩ => ⟨a', cap', h1, h2.wide, h3⟩
end Go.Proofs.YtmpihhhjkkokfaaGreatDoor
namespace Go.Proofs.YtmpihhhjkkokfaaGreatDoor
open Go Go.RowKit
end Go.Proofs.YtmpihhhjkkokfaaGreatDoor
namespace Go.Proofs.YtmpihhhjkkokfaaGreatDoor
open Go Go.RowKit
end Go.Proofs.YtmpihhhjkkokfaaGreatDoor
namespace Go.Proofs.YtmpihhhjkkokfaaGreatDoor
set_option linter.unusedVariables false
def bT : Tr := .mk 1 (oSpan 97 97) 0 0 0 []
def dlExB (ext : Bool) (k : Nat) : Bool := match parseM ext (List.replicate k 97) with
 | .ok q => q.1.marks.isEmpty && (nsame q.2 (canon (tjoin (List.replicate k bT))) && decide (nsize q.2 ≤ 4000000))
 | .error _ => false
theorem dl_ex : ∀ k : Fin 10, dlExB false (k.val + 1) = true ∧ dlExB true (k.val + 1) = true := by decide +kernel
theorem dl_parse (ext : Bool) (k : Nat) (h1 : 1 ≤ k) (h2 : k ≤ 10) : ∃ st D, parseM ext (List.replicate k 97) = .ok (st, D) ∧ st.marks = [] ∧ nsame D (canon (tjoin (List.replicate k bT))) = true ∧ nsize D ≤ 4000000 := by
 have h := dl_ex ⟨k - 1, by omega⟩
 simp only at h
 rw [show k - 1 + 1 = k by omega] at h
 have h : dlExB ext k = true := by
  cases ext
  ·exact h.1
  ·exact h.2
 unfold dlExB at h
 cases hp : parseM ext (List.replicate k 97) with
 | error q => rw [hp] at h; cases h
 | ok q =>
  obtain ⟨st, D⟩ := q
  rw [hp] at h
  simp only [Bool.and_eq_true, List.isEmpty_iff, decide_eq_true_eq] at h
  exact ⟨st, D, rfl, h.1, h.2.1, h.2.2⟩
theorem dl_btw {d : UInt8} (hd : d ≠ 97) (L R : List UInt8) : ∀ (j n p : Nat) (acc : List UInt8), L.drop p = List.replicate j 97 ++ d :: R → j < n → pcBtw d true L n p acc = (acc ++ List.replicate j 97, p + j + 1, 0)
 | 0, 0, p, acc, h, hn => by omega
 | 0, n + 1, p, acc, h, hn => by
  rw [pcBtw_del (show L.drop p = d :: R from h)]
  simp
 | j + 1, 0, p, acc, h, hn => by omega
 | j + 1, n + 1, p, acc, h, hn => by
  have h0 : L.drop p = 97 :: (List.replicate j 97 ++ d :: R) := by rw [h, List.replicate_succ, List.cons_append]
  have hp : pcPart d true 97 (List.replicate j 97 ++ d :: R) p = ([97], p + 1, 0) := by
   unfold pcPart
   rw [if_neg (by decide)]
   have hk : (if (true && (97 : UInt8) == 91) = true then pcBrk (List.replicate j 97 ++ d :: R) else 1) = 1 := if_neg (by decide)
   simp only
   rw [hk, List.take_succ_cons, List.take_zero]
   rfl
  rw [pcBtw_part h0 (Ne.symm hd) hp]
  have h1 : L.drop (p + 1) = List.replicate j 97 ++ d :: R := by rw [← List.drop_drop, h0]; rfl
  rw [dl_btw hd L R j n (p + 1) _ h1 (by omega), List.replicate_succ]
  simp
  omega
theorem ad_delim (ext : Bool) (d : UInt8) (k : Nat) (h92 : d ≠ 92) (h10 : d ≠ 10) (h97 : d ≠ 97) (h1 : 1 ≤ k) (h2 : k ≤ 10) :
  ∃ D, adM ext false (92 :: d :: (List.replicate k 97 ++ d :: [112])) 0 = .ok (⟨3, 0, List.replicate k 97, some D⟩, [], k + 3) ∧ nsame D (canon (tjoin (List.replicate k bT))) = true ∧ nsize D ≤ 4000000 := by
 obtain ⟨st, D, hp, hm, hs, hz⟩ := dl_parse ext k h1 h2
 refine ⟨D, ?_, hs, hz⟩
 have hb : pcBetween (92 :: d :: (List.replicate k 97 ++ d :: [112])) (2 : Nat) d true = (List.replicate k 97, k + 3, 0) := by
  unfold pcBetween
  rw [pcAt_at _ _ _ _ (by simp)]
  rw [dl_btw h97 _ [112] k _ 2 [] rfl (by simp; omega)]
  simp
  omega
 have hdl : delimM ext (92 :: d :: (List.replicate k 97 ++ d :: [112])) 2 d = .ok ((List.replicate k 97, D), [], k + 3) := by
  unfold delimM
  simp only [hb, if_true]
  rw [if_neg (by intro e; have := congrArg List.length e; simp at this; omega), hp]
  simp only [hm]
  rfl
 unfold adM
 rw [List.drop_zero]
 simp only
 rw [if_neg (by decide), if_neg (by decide), if_neg (by decide), if_pos trivial]
 unfold adDel
 rw [show (92 :: d :: (List.replicate k 97 ++ d :: [112])).drop (0 + 1) = d :: (List.replicate k 97 ++ d :: [112]) from rfl]
 simp only
 rw [if_neg (by intro e; exact e.elim h92 h10)]
 unfold adRx
 rw [show (0 : Nat) + 2 = 2 from rfl, hdl]
end Go.Proofs.YtmpihhhjkkokfaaGreatDoor
