/- The proof's texts TrRf: what the claim reaches of them. -/
import Derived.Test.YtkejeiopfblkgaaGreatDoorBp02
import Derived.Test.YtkejeiopfblkgaaGreatDoorBp07
import Derived.Test.YtkejeiopfblkgaaGreatDoorBp05
import Derived.Test.YtkejeiopfblkgaaGreatDoorBp09
import Derived.Deep.RegionHeld3
import Derived.Defers
import Derived.Recover
import Derived.Tactics2
import Derived.Test.YtkejeiopfblkgaaGreatDoorBp10
import Derived.Test.YtkejeiopfblkgaaGreatDoorBp11
import Derived.Deep.LoopGhost
import Derived.Deep.DeepCutAuto
import Derived.Deep.RegionWith
namespace Go.Proofs.YtkejeiopfblkgaaGreatDoor
def tjpart (x : Tr) : List Tr := if x.kind = 0 then [] else if x.kind = 2 then x.parts else [x]
def tcpart (x : Tr) : List Tr := if x.kind = 3 then x.parts else [x]
def mkT (k : Int) (l : List Tr) : Tr := match l with
 | [] => tz
 | [x] => x
 | xs => .mk k oz 0 0 0 xs
def tjoin (l : List Tr) : Tr := mkT 2 (l.flatMap tjpart)
def tchoose (l : List Tr) : Tr := mkT 3 (l.flatMap tcpart)
theorem tflat_take (f : Tr → List Tr) (l : List Tr) (k : Nat) (h : k < l.length) : (l.take (k + 1)).flatMap f = (l.take k).flatMap f ++ f l[k] := by
 rw [List.take_succ_eq_append_getElem h, List.flatMap_append]
 simp
theorem tflat_le (f : Tr → List Tr) (l : List Tr) (k : Nat) : ((l.take k).flatMap f).length ≤ (l.flatMap f).length := by
 have h := congrArg List.length (congrArg (List.flatMap f) (List.take_append_drop k l))
 rw [List.flatMap_append, List.length_append] at h
 omega
end Go.Proofs.YtkejeiopfblkgaaGreatDoor
namespace Go.Proofs.YtkejeiopfblkgaaGreatDoor
open Go Go.RowKit
def TrF (F : Nat → Prop) : Nat → World → Tr → Option Addr → Nat → Prop
 | 0, _, _, _, _ => False
 | n + 1, w, t, a, cap => t.parts.length ≤ cap ∧ cap ≤ maxLen ∧ (0 < t.parts.length → ∃ b o, a = some ⟨b, o, none⟩ ∧ F b ∧ b < w.heap.size ∧ ∀ i (h : i < t.parts.length), ∃ a' cap', Cl9 w b (o + i * 9) t.parts[i] a' cap' ∧ TrF F n w t.parts[i] a' cap')
theorem Cl9.same {w w' : World} {b o : Nat} {t : Tr} {a : Option Addr} {cap : Nat} (h : Cl9 w b o t a cap) (hs : ∀ o, w'.cell? ⟨b, o, none⟩ = w.cell? ⟨b, o, none⟩) : Cl9 w' b o t a cap :=
 ⟨(hs _).trans h.k, (hs _).trans h.s0, (hs _).trans h.s1, (hs _).trans h.s2, (hs _).trans h.s3, (hs _).trans h.p, (hs _).trans h.mn, (hs _).trans h.mx, (hs _).trans h.num⟩
theorem TrF.keep {F G : Nat → Prop} {w w' : World} (hs : w.heap.size ≤ w'.heap.size) (hF : ∀ b, F b → b < w.heap.size → G b ∧ ∀ o, w'.cell? ⟨b, o, none⟩ = w.cell? ⟨b, o, none⟩) :
  ∀ (n : Nat) (t : Tr) (a : Option Addr) (cap : Nat), TrF F n w t a cap → TrF G n w' t a cap := by
 intro n
 induction n with
 | zero => intro t a cap h; exact h
 | succ n ih =>
  intro t a cap h
  unfold TrF at h ⊢
  refine ⟨h.1, h.2.1, fun h0 => ?_⟩
  obtain ⟨b, o, rfl, hf, hlt, hk⟩ := h.2.2 h0
  refine ⟨b, o, rfl, (hF b hf hlt).1, Nat.lt_of_lt_of_le hlt hs, fun i hi => ?_⟩
  obtain ⟨a', cap', h9, hr⟩ := hk i hi
  exact ⟨a', cap', h9.same (hF b hf hlt).2, ih _ _ _ hr⟩
theorem TrF.more {F : Nat → Prop} {w : World} : ∀ (n m : Nat) (t : Tr) (a : Option Addr) (cap : Nat), n ≤ m → TrF F n w t a cap → TrF F m w t a cap := by
 intro n
 induction n with
 | zero => intro m t a cap _ h; exact h.elim
 | succ n ih =>
  intro m t a cap hm h
  obtain ⟨m, rfl⟩ : ∃ m', m = m' + 1 := ⟨m - 1, by omega⟩
  unfold TrF at h ⊢
  refine ⟨h.1, h.2.1, fun h0 => ?_⟩
  obtain ⟨b, o, rfl, hf, hlt, hk⟩ := h.2.2 h0
  refine ⟨b, o, rfl, hf, hlt, fun i hi => ?_⟩
  obtain ⟨a', cap', h9, hr⟩ := hk i hi
  exact ⟨a', cap', h9, ih _ _ _ _ (by omega) hr⟩
theorem TrF.at {F : Nat → Prop} {w : World} : ∀ (n : Nat) (t : Tr) (a : Option Addr) (cap : Nat), TrF F n w t a cap → TrAt n w t a cap := by
 intro n
 induction n with
 | zero => intro t a cap h; exact h
 | succ n ih =>
  intro t a cap h
  unfold TrF at h
  unfold TrAt
  refine ⟨h.1, h.2.1, fun h0 => ?_⟩
  obtain ⟨b, o, rfl, hf, hlt, hk⟩ := h.2.2 h0
  refine ⟨b, o, rfl, hlt, fun i hi => ?_⟩
  obtain ⟨a', cap', h9, hr⟩ := hk i hi
  exact ⟨a', cap', h9, ih _ _ _ hr⟩
theorem TrF.of {w : World} : ∀ (n : Nat) (t : Tr) (a : Option Addr) (cap : Nat), TrAt n w t a cap → TrF (fun b => b < w.heap.size) n w t a cap := by
 intro n
 induction n with
 | zero => intro t a cap h; exact h
 | succ n ih =>
  intro t a cap h
  unfold TrAt at h
  unfold TrF
  refine ⟨h.1, h.2.1, fun h0 => ?_⟩
  obtain ⟨b, o, rfl, hlt, hk⟩ := h.2.2 h0
  refine ⟨b, o, rfl, hlt, hlt, fun i hi => ?_⟩
  obtain ⟨a', cap', h9, hr⟩ := hk i hi
  exact ⟨a', cap', h9, ih _ _ _ hr⟩
def TrX (F : Nat → Prop) (w : World) (t : Tr) (a : Option Addr) (cap : Nat) : Prop := ∃ n, TrF F n w t a cap
def TrRw (F : Nat → Prop) (w : World) (l : List Tr) (a : Option Addr) (cap : Nat) : Prop :=
 l.length ≤ cap ∧ cap ≤ maxLen ∧ (0 < l.length → ∃ b o, a = some ⟨b, o, none⟩ ∧ F b ∧ b < w.heap.size ∧ ∀ i (h : i < l.length), ∃ a' cap', Cl9 w b (o + i * 9) l[i] a' cap' ∧ TrX F w l[i] a' cap')
theorem TrX.keep {F G : Nat → Prop} {w w' : World} (hs : w.heap.size ≤ w'.heap.size) (hF : ∀ b, F b → b < w.heap.size → G b ∧ ∀ o, w'.cell? ⟨b, o, none⟩ = w.cell? ⟨b, o, none⟩) {t : Tr} {a : Option Addr} {cap : Nat} (h : TrX F w t a cap) : TrX G w' t a cap := by
 obtain ⟨n, h⟩ := h
 exact ⟨n, TrF.keep hs hF _ _ _ _ h⟩
theorem TrRw.keep {F G : Nat → Prop} {w w' : World} (hs : w.heap.size ≤ w'.heap.size) (hF : ∀ b, F b → b < w.heap.size → G b ∧ ∀ o, w'.cell? ⟨b, o, none⟩ = w.cell? ⟨b, o, none⟩) {l : List Tr} {a : Option Addr} {cap : Nat} (h : TrRw F w l a cap) : TrRw G w' l a cap := by
 refine ⟨h.1, h.2.1, fun h0 => ?_⟩
 obtain ⟨b, o, rfl, hf, hlt, hk⟩ := h.2.2 h0
 refine ⟨b, o, rfl, (hF b hf hlt).1, Nat.lt_of_lt_of_le hlt hs, fun i hi => ?_⟩
 obtain ⟨a', cap', h9, hr⟩ := hk i hi
 exact ⟨a', cap', h9.same (hF b hf hlt).2, hr.keep hs hF⟩
theorem TrX.below {F : Nat → Prop} {w w' : World} (hb : Below w.heap.size w w') {t : Tr} {a : Option Addr} {cap : Nat} (h : TrX F w t a cap) : TrX F w' t a cap :=
 h.keep hb.size (fun b hf hlt => ⟨hf, fun o => hb.cell (p := ⟨b, o, none⟩) hlt⟩)
theorem TrRw.below {F : Nat → Prop} {w w' : World} (hb : Below w.heap.size w w') {l : List Tr} {a : Option Addr} {cap : Nat} (h : TrRw F w l a cap) : TrRw F w' l a cap :=
 h.keep hb.size (fun b hf hlt => ⟨hf, fun o => hb.cell (p := ⟨b, o, none⟩) hlt⟩)
theorem TrX.wide {F : Nat → Prop} {w : World} {t : Tr} {a : Option Addr} {cap : Nat} (h : TrX F w t a cap) : TrX (fun _ => True) w t a cap := h.keep (Nat.le_refl _) (fun _ _ _ => ⟨trivial, fun _ => rfl⟩)
theorem TrX.trd {F : Nat → Prop} {w : World} {t : Tr} {a : Option Addr} {cap : Nat} (h : TrX F w t a cap) : ∃ N, TrD N w t a cap := by
 obtain ⟨n, h⟩ := h
 exact ⟨2 * n + 1, n, TrF.at _ _ _ _ h, by have := kb_le t; omega⟩
theorem TrX.of {n : Nat} {w : World} {t : Tr} {a : Option Addr} {cap : Nat} (h : TrAt n w t a cap) : TrX (fun b => b < w.heap.size) w t a cap := ⟨n, TrF.of _ _ _ _ h⟩
theorem TrRw.up {F : Nat → Prop} {w : World} {t : Tr} {a : Option Addr} {cap : Nat} (h : TrRw F w t.parts a cap) : TrX F w t a cap := by
 by_cases h0 : 0 < t.parts.length
 ·obtain ⟨b, o, rfl, hf, hlt, hk⟩ := h.2.2 h0
  have hone : ∀ i, i < t.parts.length → ∃ N : Nat, ∀ (h : i < t.parts.length), ∃ a' cap', Cl9 w b (o + i * 9) t.parts[i] a' cap' ∧ TrF F N w t.parts[i] a' cap' := fun i hi => by
   obtain ⟨a', cap', h9, n, hr⟩ := hk i hi
   exact ⟨n, fun _ => ⟨a', cap', h9, hr⟩⟩
  obtain ⟨N, hN⟩ := Go.Deep.fuel_lt (q := fun i N => ∀ (h : i < t.parts.length), ∃ a' cap', Cl9 w b (o + i * 9) t.parts[i] a' cap' ∧ TrF F N w t.parts[i] a' cap') (fun i m n hmn hq hi => by
   obtain ⟨a', cap', h9, hr⟩ := hq hi
   exact ⟨a', cap', h9, TrF.more _ _ _ _ _ hmn hr⟩) hone
  exact ⟨N + 1, h.1, h.2.1, fun _ => ⟨b, o, rfl, hf, hlt, fun i hi => hN i hi hi⟩⟩
 ·exact ⟨1, h.1, h.2.1, fun h => absurd h h0⟩
theorem TrX.down {F : Nat → Prop} {w : World} {t : Tr} {a : Option Addr} {cap : Nat} (h : TrX F w t a cap) : TrRw F w t.parts a cap := by
 obtain ⟨n, h⟩ := h
 cases n with
 | zero => exact h.elim
 | succ n =>
  refine ⟨h.1, h.2.1, fun h0 => ?_⟩
  obtain ⟨b, o, rfl, hf, hlt, hk⟩ := h.2.2 h0
  refine ⟨b, o, rfl, hf, hlt, fun i hi => ?_⟩
  obtain ⟨a', cap', h9, hr⟩ := hk i hi
  exact ⟨a', cap', h9, n, hr⟩
theorem TrRw.nil (F : Nat → Prop) (w : World) (a : Option Addr) (cap : Nat) (h : cap ≤ maxLen) : TrRw F w [] a cap := ⟨Nat.zero_le _, h, fun h => absurd h (by simp)⟩
def Chunks (F : Nat → Prop) (w : World) : List Tr → List Value → Prop
 | [], us => us = []
 | x :: xs, us => ∃ a cap us', us = (tC x a cap).toList ++ us' ∧ TrX F w x a cap ∧ Chunks F w xs us'
theorem Chunks.append {F : Nat → Prop} {w : World} : ∀ {l m : List Tr} {us vs : List Value}, Chunks F w l us → Chunks F w m vs → Chunks F w (l ++ m) (us ++ vs)
 | [], m, us, vs, h, k => by rw [show us = [] from h]; exact k
 | x :: xs, m, us, vs, h, k => by
  obtain ⟨a, cap, us', rfl, hx, hr⟩ := h
  exact ⟨a, cap, us' ++ vs, by rw [List.append_assoc], hx, Chunks.append hr k⟩
theorem Chunks.keep {F G : Nat → Prop} {w w' : World} (hs : w.heap.size ≤ w'.heap.size) (hF : ∀ b, F b → b < w.heap.size → G b ∧ ∀ o, w'.cell? ⟨b, o, none⟩ = w.cell? ⟨b, o, none⟩) : ∀ {l : List Tr} {us : List Value}, Chunks F w l us → Chunks G w' l us
 | [], _, h => h
 | x :: xs, us, h => by
  obtain ⟨a, cap, us', rfl, hx, hr⟩ := h
  exact ⟨a, cap, us', rfl, hx.keep hs hF, Chunks.keep hs hF hr⟩
theorem Chunks.len {F : Nat → Prop} {w : World} : ∀ {l : List Tr} {us : List Value}, Chunks F w l us → us.length = l.length * 9
 | [], us, h => by rw [show us = [] from h]; rfl
 | x :: xs, us, h => by
  obtain ⟨a, cap, us', rfl, hx, hr⟩ := h
  rw [List.length_append, hr.len, List.length_cons]
  simp
  omega
theorem Chunks.one {F : Nat → Prop} {w : World} : ∀ {l : List Tr} {us : List Value}, Chunks F w l us → ∀ u ∈ us, u.oneCell' = true
 | [], us, h => by rw [show us = [] from h]; intro u hu; simp at hu
 | x :: xs, us, h => by
  obtain ⟨a, cap, us', rfl, hx, hr⟩ := h
  intro u hu
  rcases List.mem_append.1 hu with hu | hu
  ·simp at hu
   rcases hu with rfl | rfl | rfl | rfl | rfl | rfl | rfl | rfl | rfl <;> rfl
  ·exact hr.one u hu
theorem Chunks.single {F : Nat → Prop} {w : World} {x : Tr} {a : Option Addr} {cap : Nat} (h : TrX F w x a cap) : Chunks F w [x] (tC x a cap).toList := ⟨a, cap, [], by simp, h, rfl⟩
theorem Chunks.at {F : Nat → Prop} {w : World} : ∀ {l : List Tr} {us : List Value} {b o : Nat}, Chunks F w l us → (∀ j u, us[j]? = some u → w.cell? ⟨b, o + j, none⟩ = some u) → ∀ i (h : i < l.length), ∃ a' cap', Cl9 w b (o + i * 9) l[i] a' cap' ∧ TrX F w l[i] a' cap'
 | [], _, _, _, _, _, i, h => absurd h (by simp)
 | x :: xs, us, b, o, h, hc, i, hi => by
  obtain ⟨a, cap, us', rfl, hx, hr⟩ := h
  cases i with
  | zero =>
   have hj : ∀ j v, (tC x a cap)[j]? = some v → w.cell? ⟨b, o + j, none⟩ = some v := fun j v hv => hc j v (by
    have hlt : j < (tC x a cap).toList.length := by
     rw [Array.length_toList]
     exact (Array.getElem?_eq_some_iff.1 hv).1
    rw [List.getElem?_append_left hlt, Array.getElem?_toList]; exact hv)
   refine ⟨a, cap, ?_, hx⟩
   rw [Nat.zero_mul, Nat.add_zero]
   exact ⟨hj 0 _ rfl, hj 1 _ rfl, hj 2 _ rfl, hj 3 _ rfl, hj 4 _ rfl, hj 5 _ rfl, hj 6 _ rfl, hj 7 _ rfl, hj 8 _ rfl⟩
  | succ i =>
   have h2 := Chunks.at (b := b) (o := o + 9) hr (fun j u hu => by
    have := hc (9 + j) u (by
     rw [List.getElem?_append_right (by simp)]
     simpa using hu)
    rw [← Nat.add_assoc] at this
    exact this) i (by simpa using hi)
   rw [show o + 9 + i * 9 = o + (i + 1) * 9 by omega] at h2
   exact h2
theorem chunks_of {F : Nat → Prop} {w : World} : ∀ {l : List Tr} {b o : Nat}, (∀ i (h : i < l.length), ∃ a' cap', Cl9 w b (o + i * 9) l[i] a' cap' ∧ TrX F w l[i] a' cap') → ∃ us, Chunks F w l us ∧ ∀ j u, us[j]? = some u → w.cell? ⟨b, o + j, none⟩ = some u
 | [], _, _, _ => ⟨[], rfl, fun j u hu => by simp at hu⟩
 | x :: xs, b, o, h => by
  obtain ⟨a, cap, h9, hx⟩ := h 0 (by simp)
  obtain ⟨us', hr, hc⟩ := chunks_of (l := xs) (b := b) (o := o + 9) (fun i hi => by
   have h2 := h (i + 1) (by simpa using hi)
   rw [show o + (i + 1) * 9 = o + 9 + i * 9 by omega] at h2
   exact h2)
  refine ⟨(tC x a cap).toList ++ us', ⟨a, cap, us', rfl, hx, hr⟩, fun j u hu => ?_⟩
  rw [Nat.zero_mul, Nat.add_zero] at h9
  by_cases hj : j < 9
  ·rw [List.getElem?_append_left (by simpa using hj)] at hu
   obtain ⟨c0, c1, c2, c3, c4, c5, c6, c7, c8⟩ := h9
   match j, hj, hu with
   | 0, _, hu => simp at hu; subst hu; exact c0
   | 1, _, hu => simp at hu; subst hu; exact c1
   | 2, _, hu => simp at hu; subst hu; exact c2
   | 3, _, hu => simp at hu; subst hu; exact c3
   | 4, _, hu => simp at hu; subst hu; exact c4
   | 5, _, hu => simp at hu; subst hu; exact c5
   | 6, _, hu => simp at hu; subst hu; exact c6
   | 7, _, hu => simp at hu; subst hu; exact c7
   | 8, _, hu => simp at hu; subst hu; exact c8
  ·rw [List.getElem?_append_right (by simp; omega)] at hu
   have := hc (j - 9) u (by simpa using hu)
   rw [show o + 9 + (j - 9) = o + j by omega] at this
   exact this
theorem TrRw.news {F : Nat → Prop} {w : World} {l : List Tr} {a : Option Addr} {cap : Nat} (h : TrRw F w l a cap) : ∃ us, Chunks F w l us ∧ (0 < l.length → ∃ a', a = some a' ∧ ∀ j u, us[j]? = some u → w.cell? (a'.add j) = some u) := by
 by_cases h0 : 0 < l.length
 ·obtain ⟨b, o, rfl, hf, hlt, hk⟩ := h.2.2 h0
  obtain ⟨us, h1, h2⟩ := chunks_of hk
  exact ⟨us, h1, fun _ => ⟨_, rfl, fun j u hu => by rw [Go.WideShapes.add_plain]; exact h2 j u hu⟩⟩
 ·have : l = [] := List.eq_nil_of_length_eq_zero (by omega)
  subst this
  exact ⟨[], rfl, fun h => absurd h h0⟩
def OffV (v : Value) (b : Nat) : Prop := v.ownBlock ≠ some b
def TOwn (G : Nat → Prop) (B : Nat) (w : World) (l : List Tr) (v : Value) (us : List Value) : Prop :=
 w.ownsRow B 36 9 v l.length us ∧ Chunks (fun b => G b ∧ OffV v b) w l us
theorem TOwn.nil (G : Nat → Prop) (B : Nat) (w : World) : TOwn G B w [] (.slice none 0 0) [] := ⟨World.ownsRow_nil _ _ _ _, rfl⟩
theorem TOwn.below {G : Nat → Prop} {B : Nat} {w w' : World} {l : List Tr} {v : Value} {us : List Value} (h : TOwn G B w l v us) (hb : Below w.heap.size w w') : TOwn G B w' l v us :=
 ⟨nd_own_below h.1 hb, h.2.keep hb.size (fun b hf hlt => ⟨hf, fun o => hb.cell (p := ⟨b, o, none⟩) hlt⟩)⟩
theorem town_lt {B : Nat} {w : World} {e : TypeId} {size n : Nat} {v : Value} {us : List Value} (h : w.ownsRow B e size v n us) (g : Nat) (hg : v.ownBlock = some g) : g < w.heap.size := by
 rcases h.2 with ⟨rfl, _⟩ | ⟨g', cap, cur, rfl, _, hh, _⟩
 ·simp [Value.ownBlock] at hg
 ·simp [Value.ownBlock] at hg
  subst hg
  exact (Array.getElem?_eq_some_iff.1 hh).1
theorem off_keep {G : Nat → Prop} {w w' : World} {v v' : Value} (hg : w.grownBy w' v.ownBlock) (hat : v'.ownBlock = v.ownBlock ∨ v'.ownBlock = some w.heap.size) : ∀ b, (G b ∧ OffV v b) → b < w.heap.size → (G b ∧ OffV v' b) ∧ ∀ o, w'.cell? ⟨b, o, none⟩ = w.cell? ⟨b, o, none⟩ :=
 fun b hf hlt => ⟨⟨hf.1, by
  rcases hat with e | e
  ·unfold OffV; rw [e]; exact hf.2
  ·unfold OffV; rw [e]; intro he; injection he with he; omega⟩, fun o => World.cell?_of_block (w := w) (a := ⟨b, o, none⟩) (hg.block b hlt (fun e => hf.2 e.symm))⟩
theorem TOwn.push {G : Nat → Prop} {B : Nat} {w w' : World} {l m : List Tr} {v v' : Value} {us vs : List Value} (h : TOwn G B w l v us) (hm : Chunks (fun b => G b ∧ OffV v b) w m vs) (hown : w'.ownsRow B 36 9 v' (l.length + m.length) (us ++ vs)) (hg : w.grownBy w' v.ownBlock) (hat : v'.ownBlock = v.ownBlock ∨ v'.ownBlock = some w.heap.size) : TOwn G B w' (l ++ m) v' (us ++ vs) :=
 ⟨by rw [List.length_append]; exact hown, (h.2.append hm).keep hg.size (off_keep hg hat)⟩
theorem TOwn.row {G : Nat → Prop} {B : Nat} {w : World} {l : List Tr} {v : Value} {us : List Value} (h : TOwn G B w l v us) : ∃ a cap, v = .slice a l.length cap ∧ TrRw (fun b => G b ∨ B ≤ b) w l a cap := by
 obtain ⟨⟨h1, h2⟩, h3⟩ := h
 rcases h2 with ⟨rfl, hz⟩ | ⟨g, cap, cur, rfl, hg, hh, hn, hcap, hcs, htk⟩
 ·exact ⟨none, 0, by rw [hz], by omega, Nat.zero_le _, fun h => by omega⟩
 ·refine ⟨some ⟨g, 0, none⟩, cap, rfl, hn, hcap, fun h0 => ⟨g, 0, rfl, .inr hg, (Array.getElem?_eq_some_iff.1 hh).1, ?_⟩⟩
  have hc : Chunks (fun b => G b ∨ B ≤ b) w l us := h3.keep (Nat.le_refl _) (fun _ hf _ => ⟨.inl hf.1, fun _ => rfl⟩)
  exact hc.at (fun j u hu => by
   have hj : j < l.length * 9 := by rw [← h1]; exact (List.getElem?_eq_some_iff.1 hu).1
   have h4 : w.cell? ⟨g, 0 + j, none⟩ = cur[j]? := by simp [World.cell?, hh]
   have h5 : (cur.toList.take (l.length * 9))[j]? = us[j]? := by rw [htk]
   rw [List.getElem?_take_of_lt hj] at h5
   rw [h4, ← Array.getElem?_toList, h5, hu])
theorem t_info : ∃ i, Tryz.prog.info? 36 = some i ∧ i.zero = some (.agg zC) ∧ i.size = 9 ∧ i.bytes = 88 := by
 have h : (Tryz.prog.info? 36).map (fun i => (i.zero, i.size, i.bytes)) = some (some (.agg zC), 9, 88) := by kernel_rfl
 obtain ⟨i, hi, he⟩ := Option.map_eq_some_iff.1 h
 injection he with h1 h2
 injection h2 with h2 h3
 exact ⟨i, hi, h1, h2, h3⟩
theorem cl9_blk {w : World} {b : Nat} {x : Tr} {a : Option Addr} {cap : Nat} {T : TypeId} (h : Blk w b (tC x a cap) T) : Cl9 w b 0 x a cap :=
 ⟨(h.cell 0).trans rfl, (h.cell 1).trans rfl, (h.cell 2).trans rfl, (h.cell 3).trans rfl, (h.cell 4).trans rfl, (h.cell 5).trans rfl, (h.cell 6).trans rfl, (h.cell 7).trans rfl, (h.cell 8).trans rfl⟩
theorem news_new (w : World) (x : Tr) (a : Option Addr) (cap : Nat) (T : TypeId) (g : Nat) (hg : g = w.heap.size) : ∀ j u, (tC x a cap).toList[j]? = some u → (w.alloc (.cells (tC x a cap) T)).cell? ((⟨g, 0, none⟩ : Addr).add j) = some u := by
 have h := Blk.new w (tC x a cap) T g hg
 intro j u hu
 rw [Go.WideShapes.add_plain, Nat.zero_add, h.cell j, ← Array.getElem?_toList]
 exact hu
theorem trw_one {F G : Nat → Prop} {w : World} {x : Tr} {a : Option Addr} {cap : Nat} {T : TypeId} (h : TrX F w x a cap) (hG : ∀ b, F b → b < w.heap.size → G b) (hn : G w.heap.size) : TrRw G (w.alloc (.cells (tC x a cap) T)) [x] (some ⟨w.heap.size, 0, none⟩) 1 := by
 have hb := Blk.new w (tC x a cap) T _ rfl
 have hB := (Below.refl w.heap.size w).alloc (Nat.le_refl _) (.cells (tC x a cap) T)
 refine ⟨Nat.le_refl _, by decide, fun _ => ⟨w.heap.size, 0, rfl, hn, hb.lt, fun i hi => ?_⟩⟩
 obtain rfl : i = 0 := by simp at hi; exact hi
 exact ⟨a, cap, cl9_blk hb, h.keep hB.size (fun b hf hlt => ⟨hG b hf hlt, fun o => hB.cell (p := ⟨b, o, none⟩) hlt⟩)⟩
theorem put9 {w0 w : World} {p : Nat} {T : TypeId} (hb : Below w0.heap.size w0 w) (hp : w0.heap.size ≤ p) (h : Blk w p zC T) (v0 v1 v2 v3 v4 v5 v6 v7 v8 : Value) (w' : World)
  (hw : (((((((((w.setCell ⟨p, 0, none⟩ v0).setCell ⟨p, 1, none⟩ v1).setCell ⟨p, 2, none⟩ v2).setCell ⟨p, 3, none⟩ v3).setCell ⟨p, 4, none⟩ v4).setCell ⟨p, 5, none⟩ v5).setCell ⟨p, 6, none⟩ v6).setCell ⟨p, 7, none⟩ v7).setCell ⟨p, 8, none⟩ v8) = w') :
  Below w0.heap.size w0 w' ∧ (∀ b, b ≠ p → ∀ o, w'.cell? ⟨b, o, none⟩ = w.cell? ⟨b, o, none⟩) ∧ w'.heap.size = w.heap.size ∧ w'.cell? ⟨p, 0, none⟩ = some v0 ∧ w'.cell? ⟨p, 1, none⟩ = some v1 ∧ w'.cell? ⟨p, 2, none⟩ = some v2 ∧ w'.cell? ⟨p, 3, none⟩ = some v3 ∧ w'.cell? ⟨p, 4, none⟩ = some v4 ∧ w'.cell? ⟨p, 5, none⟩ = some v5 ∧ w'.cell? ⟨p, 6, none⟩ = some v6 ∧ w'.cell? ⟨p, 7, none⟩ = some v7 ∧ w'.cell? ⟨p, 8, none⟩ = some v8 := by
 subst hw
 have h9 := ((((((((h.set 0 v0).set 1 v1).set 2 v2).set 3 v3).set 4 v4).set 5 v5).set 6 v6).set 7 v7).set 8 v8
 have hcs : ((((((((zC.setIfInBounds 0 v0).setIfInBounds 1 v1).setIfInBounds 2 v2).setIfInBounds 3 v3).setIfInBounds 4 v4).setIfInBounds 5 v5).setIfInBounds 6 v6).setIfInBounds 7 v7).setIfInBounds 8 v8 = #[v0, v1, v2, v3, v4, v5, v6, v7, v8] := by
  simp
 rw [hcs] at h9
 clear hcs h
 have o1 : ∀ (w : World) (j : Nat) (v : Value) b, b ≠ p → ∀ o, (w.setCell ⟨p, j, none⟩ v).cell? ⟨b, o, none⟩ = w.cell? ⟨b, o, none⟩ := fun w j v b hb o =>
  World.cell?_of_block (w := w) (a := ⟨b, o, none⟩) (Below.heap_setCell _ _ _ _ (fun e => hb e))
 refine ⟨?_, fun b hb o => ?_, by simp [World.setCell], (h9.cell 0).trans rfl, (h9.cell 1).trans rfl, (h9.cell 2).trans rfl, (h9.cell 3).trans rfl, (h9.cell 4).trans rfl, (h9.cell 5).trans rfl, (h9.cell 6).trans rfl, (h9.cell 7).trans rfl, (h9.cell 8).trans rfl⟩
 ·exact ((((((((hb.setCell (p := ⟨p, 0, none⟩) hp v0).setCell (p := ⟨p, 1, none⟩) hp v1).setCell (p := ⟨p, 2, none⟩) hp v2).setCell (p := ⟨p, 3, none⟩) hp v3).setCell (p := ⟨p, 4, none⟩) hp v4).setCell (p := ⟨p, 5, none⟩) hp v5).setCell (p := ⟨p, 6, none⟩) hp v6).setCell (p := ⟨p, 7, none⟩) hp v7).setCell (p := ⟨p, 8, none⟩) hp v8
 ·rw [o1 _ _ _ _ hb, o1 _ _ _ _ hb, o1 _ _ _ _ hb, o1 _ _ _ _ hb, o1 _ _ _ _ hb, o1 _ _ _ _ hb, o1 _ _ _ _ hb, o1 _ _ _ _ hb, o1 _ _ _ _ hb]
end Go.Proofs.YtkejeiopfblkgaaGreatDoor
namespace Go.Proofs.YtkejeiopfblkgaaGreatDoor
open Go Go.RowKit
theorem Blk.grown {w w' : World} {b : Nat} {cs : Array Value} {T : TypeId} {r : Option Nat} (h : Blk w b cs T) (hg : w.grownBy w' r) (hr : ∀ k, r = some k → b < k) : Blk w' b cs T := by
 have hlt := h.lt
 unfold Blk at h ⊢
 rw [hg.block b hlt (fun e => by have := hr b e.symm; omega)]
 exact h
set_option linter.unusedSimpArgs false in
set_option maxRecDepth 100000 in
set_option maxHeartbeats 8000000 in
theorem rjoin_f {F : Nat → Prop} (l : List Tr) (a : Option Addr) (cap : Nat) (w : World) (h : TrRw F w l a cap) (hsz : (l.flatMap tjpart).length ≤ 4000000) (hsl : l.length ≤ 4000000) :
  Calls Tryz.prog 80 #[.slice a l.length cap] w fun e w' => ∃ a' cap', e = .returned (tV (tjoin l) a' cap') ∧ TrX (fun b => F b ∨ w.heap.size ≤ b) w' (tjoin l) a' cap' ∧ Below w.heap.size w w' := by
 obtain ⟨i0, hi, hz0, hz1, hz2⟩ := t_info
 obtain ⟨J, hJ⟩ : ∃ J, J = tjoin l := ⟨_, rfl⟩
 rw [← hJ]
 have HJ0 : Hid (J = mkT 2 (l.flatMap tjpart)) := Lib.hid hJ
 clear hJ
 have hin : TrRw (fun b => F b ∧ b < w.heap.size) w l a cap := h.keep (Nat.le_refl _) (fun b hf hl => ⟨⟨hf, hl⟩, fun _ => rfl⟩)
 have hl1 := h.1
 have hl2 := h.2.1
 unfold maxLen at hl2
 clear h
 have Hsz := Lib.hid hsz
 clear hsz
 have hP0 := Blk.new w zC 36 w.heap.size rfl
 have hB0 := (Below.refl w.heap.size w).alloc (Nat.le_refl _) (.cells zC 36)
 go_enter Tryz.func80, Tryz.ntmps80
 go_wp2_with fail
 go_loopw [3, 7] (fun s i wr => ∃ (k : Nat) (us : List Value) (pv : Value), k ≤ l.length ∧ i = .int .i64 k ∧ pv = s ∧ TOwn (fun b => F b ∧ b < w.heap.size) (w.heap.size + 1) wr ((l.take k).flatMap tjpart) pv us ∧ Blk wr w.heap.size zC 36 ∧ Below w.heap.size w wr) (fun _ i _ => l.length - (intOf i).toNat)
 case atStart => exact ⟨0, [], _, by omega, rfl, rfl, TOwn.nil _ _ _, hP0, hB0⟩
 case round =>
  clear hP0 hB0
  obtain ⟨k, us, pv, hk, rfl, hpv, hO, hP, hV⟩ := hrel
  subst hpv
  have hlow : ∀ b, b < w.heap.size → OffV pv b := fun b hb e => by have := own_of hO.1 b e; omega
  by_cases hlt : k < l.length
  ·have hrow : TrRw (fun b => F b ∧ b < w.heap.size) wr l a cap := hin.keep hV.size (fun b hf hl => ⟨hf, fun o => hV.cell (p := ⟨b, o, none⟩) hf.2⟩)
   obtain ⟨b, o, rfl, hbF, hbl, hx⟩ := hrow.2.2 (by omega)
   obtain ⟨a', cap', h9, hxx⟩ := hx k hlt
   have Htk := Lib.hid (tflat_take tjpart l k hlt)
   have hfl := tflat_le tjpart l (k + 1)
   rw [Htk.out, List.length_append] at hfl
   have hfl2 : ((l.take k).flatMap tjpart).length + (tjpart l[k]).length ≤ 4000000 := Nat.le_trans hfl Hsz.out
   obtain ⟨c0, c1, c2, c3, c4, c5, c6, c7, c8⟩ := h9
   have hprt := hxx.down
   have hpl := hprt.1
   have hpm := hprt.2.1
   unfold maxLen at hpm
   clear hx hfl hrow
   generalize l[k] = x at *
   have Hh := Lib.hid hlow
   clear hlow
   by_cases k0 : x.kind = 0
   ·have e0 : (x.kind == 0) = true := by simp [k0]
    have Ht : Hid (tjpart x = []) := Lib.hid (by unfold tjpart; rw [if_pos k0])
    clear k0 c1 c2 c3 c4 c5 c6 c7 c8
    go_wp2_with fail
    go_roundw
    case rel => exact ⟨k + 1, us, pv, by omega, by go_num, rfl, by rw [Htk.out, Ht.out, List.append_nil]; exact hO, hP, hV⟩
    case measure => simp [intOf]; omega
   ·have e0 : (x.kind == 0) = false := by simp [k0]
    by_cases k2 : x.kind = 2
    ·have e2 : (x.kind == 2) = true := by simp [k2]
     have Ht : Hid (tjpart x = x.parts) := Lib.hid (by unfold tjpart; rw [if_neg k0, if_pos k2])
     rw [Ht.out] at hfl2
     clear k2
     obtain ⟨vs, hch, hnews⟩ := hprt.news
     have hvl := hch.len
     have hv1 := hch.one
     have hch2 : Chunks (fun b => (F b ∧ b < w.heap.size) ∧ OffV pv b) wr x.parts vs := hch.keep (Nat.le_refl _) (fun b hf _ => ⟨⟨hf, Hh.out b hf.2⟩, fun _ => rfl⟩)
     have hm1 : ((l.take k).flatMap tjpart).length + x.parts.length ≤ maxLen := by unfold maxLen; omega
     have hm2 : (((l.take k).flatMap tjpart).length + x.parts.length) * 88 ≤ 140737488355328 := by omega
     have hwb : w.heap.size + 1 ≤ wr.heap.size := hP.lt
     have Hvl := Lib.hid hvl
     clear hvl hprt hch c1 c2 c3 c4 c6 c7 c8 hfl2
     go_wp2_with (at_builtin; refine wpList_append_any _ rfl _ _ 34 rfl (w.heap.size + 1) 36 i0 (.agg zC) 9 88 Tryz.underlying34 hi hz0 hz1 hz2 rfl (by decide) _ _ _ rfl hO.1 _ _ _ vs rfl Hvl.out hnews hv1 hm1 hm2 hwb ?_; intro v6 w6 hown6 hgrow6 hat6)
     have hO6 := hO.push hch2 hown6 hgrow6 hat6
     have hP6 := hP.grown hgrow6 (fun k hk => by have := own_of hO.1 k hk; omega)
     have hV6 := hV.grown hgrow6 hV.size (fun k hk => by have := own_of hO.1 k hk; omega)
     clear hO hP hV hown6 hgrow6 hat6
     go_wp2_with fail
     go_roundw
     case rel => exact ⟨k + 1, us ++ vs, v6, by omega, by go_num, rfl, by rw [Htk.out, Ht.out]; exact hO6, hP6, hV6⟩
     case measure => simp [intOf]; omega
    ·have e2 : (x.kind == 2) = false := by simp [k2]
     have Ht : Hid (tjpart x = [x]) := Lib.hid (by unfold tjpart; rw [if_neg k0, if_neg k2])
     rw [Ht.out] at hfl2
     clear k2
     have hwb : w.heap.size + 1 ≤ wr.heap.size := hP.lt
     have hch2 : Chunks (fun b => (F b ∧ b < w.heap.size) ∧ OffV pv b) wr [x] (tC x a' cap').toList := Chunks.single (hxx.keep (Nat.le_refl _) (fun b hf _ => ⟨⟨hf, Hh.out b hf.2⟩, fun _ => rfl⟩))
     have hv1 := hch2.one
     have hm1 : ((l.take k).flatMap tjpart).length + 1 ≤ maxLen := by unfold maxLen; simp only [List.length_cons, List.length_nil] at hfl2; omega
     have hm2 : (((l.take k).flatMap tjpart).length + 1) * 88 ≤ 140737488355328 := by simp only [List.length_cons, List.length_nil] at hfl2; omega
     have hA := (Below.refl wr.heap.size wr).alloc (Nat.le_refl _) (.cells (tC x a' cap') 36)
     have hOA := hO.below hA
     have hPA := hP.alloc (.cells (tC x a' cap') 36)
     have hVA := hV.alloc hV.size (.cells (tC x a' cap') 36)
     have hchA : Chunks (fun b => (F b ∧ b < w.heap.size) ∧ OffV pv b) (wr.alloc (.cells (tC x a' cap') 36)) [x] (tC x a' cap').toList := hch2.keep hA.size (fun b hf hl => ⟨hf, fun o => hA.cell (p := ⟨b, o, none⟩) hl⟩)
     have hnw := news_new wr x a' cap' 36 wr.heap.size rfl
     clear hprt hfl2 hch2
     go_wp2_with (at_builtin; refine wpList_append_any _ rfl _ _ 34 rfl (w.heap.size + 1) 36 i0 (.agg zC) 9 88 Tryz.underlying34 hi hz0 hz1 hz2 rfl (by decide) _ _ _ rfl hOA.1 (some ⟨wr.heap.size, 0, none⟩) 1 1 (tC x a' cap').toList rfl rfl (fun _ => ⟨_, rfl, hnw⟩) hv1 hm1 hm2 (by simp; omega) ?_; intro v6 w6 hown6 hgrow6 hat6)
     have hO6 := hOA.push hchA hown6 hgrow6 hat6
     have hP6 := hPA.grown hgrow6 (fun k hk => by have := own_of hOA.1 k hk; omega)
     have hV6 := hVA.grown hgrow6 hVA.size (fun k hk => by have := own_of hOA.1 k hk; omega)
     clear hO hP hV hown6 hgrow6 hat6 hOA hPA hVA hA hchA hnw c0 c1 c2 c3 c4 c5 c6 c7 c8
     go_wp2_with fail
     go_roundw
     case rel => exact ⟨k + 1, us ++ (tC x a' cap').toList, v6, by omega, by go_num, rfl, by rw [Htk.out, Ht.out]; exact hO6, hP6, hV6⟩
     case measure => simp [intOf]; omega
  ·obtain rfl : k = l.length := by omega
   rw [List.take_of_length_le (Nat.le_refl _)] at hO
   obtain ⟨a9, cap9, rfl, hR⟩ := hO.row
   have hszz := Hsz.out
   have HJ := Lib.hid HJ0.out
   clear HJ0 Hsz
   generalize l.flatMap tjpart = xs at *
   have p0 := (hP.cell 0).trans rfl
   have p1 := (hP.cell 1).trans rfl
   have p2 := (hP.cell 2).trans rfl
   have p3 := (hP.cell 3).trans rfl
   have p4 := (hP.cell 4).trans rfl
   have p5 := (hP.cell 5).trans rfl
   have p6 := (hP.cell 6).trans rfl
   have p7 := (hP.cell 7).trans rfl
   have p8 := (hP.cell 8).trans rfl
   have z0 := hP.frozen 0
   have z1 := hP.frozen 1
   have z2 := hP.frozen 2
   have z3 := hP.frozen 3
   have z4 := hP.frozen 4
   have z5 := hP.frozen 5
   have z6 := hP.frozen 6
   have z7 := hP.frozen 7
   have z8 := hP.frozen 8
   have hbl := hP.lt
   clear hO hin
   rcases xs with _ | ⟨x, _ | ⟨y, ys⟩⟩
   ·have HJ2 : Hid (J = tz) := Lib.hid HJ.out
    clear HJ
    obtain rfl := HJ2.out
    go_wp2_with fail
    obtain ⟨w9, hw9⟩ : ∃ w9, w9 = _ := ⟨_, rfl⟩
    obtain ⟨hB9, hk9, hs9, d0, d1, d2, d3, d4, d5, d6, d7, d8⟩ := put9 hV (Nat.le_refl _) hP _ _ _ _ _ _ _ _ _ w9 hw9.symm
    rw [← hw9]
    clear hw9
    refine bodyPost_ret (v := tV tz none 0) (by simp [results, Tryz.results80, go_sem, tV, tz, Tr.kind, Tr.set, Tr.parts, Tr.mn, Tr.mx, Tr.num, ow_zero, d0, d1, d2, d3, d4, d5, d6, d7, d8]) rfl ⟨none, 0, rfl, TrRw.up (TrRw.nil _ _ _ _ (Nat.zero_le _)), hB9⟩
   ·have HJ2 : Hid (J = x) := Lib.hid HJ.out
    clear HJ
    obtain rfl := HJ2.out
    obtain ⟨b, o, rfl, _, hbb, hx⟩ := hR.2.2 (by simp)
    obtain ⟨a', cap', h9, hxx⟩ := hx 0 (by simp)
    simp only [Nat.zero_mul, Nat.add_zero, List.getElem_cons_zero] at h9 hxx
    obtain ⟨c0, c1, c2, c3, c4, c5, c6, c7, c8⟩ := h9
    have hR1 := hR.1
    have hR2 := hR.2.1
    unfold maxLen at hR2
    clear hx hR
    simp only [List.length_cons, List.length_nil, Nat.zero_add] at hR1 ⊢
    go_wp2_with fail
    obtain ⟨w9, hw9⟩ : ∃ w9, w9 = _ := ⟨_, rfl⟩
    obtain ⟨hB9, hk9, hs9, d0, d1, d2, d3, d4, d5, d6, d7, d8⟩ := put9 hV (Nat.le_refl _) hP _ _ _ _ _ _ _ _ _ w9 hw9.symm
    rw [← hw9]
    clear hw9
    refine bodyPost_ret (v := tV J a' cap') (by simp [results, Tryz.results80, go_sem, tV, d0, d1, d2, d3, d4, d5, d6, d7, d8]) rfl ⟨a', cap', rfl, hxx.keep (by rw [hs9]; exact Nat.le_refl _) (fun b hf _ => ⟨hf.elim (fun h => .inl h.1) (fun h => .inr (Nat.le_of_succ_le h)), hk9 b (by rcases hf with h | h <;> omega)⟩), hB9⟩
   ·have HJ2 : Hid (J = .mk 2 oz 0 0 0 (x :: y :: ys)) := Lib.hid HJ.out
    clear HJ
    have e0 : (((x :: y :: ys).length : Int) == 0) = false := by simp; omega
    have e1 : (((x :: y :: ys).length : Int) == 1) = false := by simp; omega
    generalize x :: y :: ys = xs at *
    obtain rfl := HJ2.out
    go_wp2_with fail
    obtain ⟨w9, hw9⟩ : ∃ w9, w9 = _ := ⟨_, rfl⟩
    obtain ⟨hB9, hk9, hs9, d0, d1, d2, d3, d4, d5, d6, d7, d8⟩ := put9 hV (Nat.le_refl _) hP _ _ _ _ _ _ _ _ _ w9 hw9.symm
    rw [← hw9]
    clear hw9
    refine bodyPost_ret (v := tV (.mk 2 oz 0 0 0 xs) a9 cap9) (by simp [results, Tryz.results80, go_sem, tV, Tr.kind, Tr.set, Tr.parts, Tr.mn, Tr.mx, Tr.num, ow_zero, d0, d1, d2, d3, d4, d5, d6, d7, d8]) rfl ⟨a9, cap9, rfl, TrRw.up (t := .mk 2 oz 0 0 0 xs) (TrRw.keep (F := fun b => (F b ∧ b < w.heap.size) ∨ w.heap.size + 1 ≤ b) (by rw [hs9]; exact Nat.le_refl _) (fun b hf _ => ⟨hf.elim (fun h => .inl h.1) (fun h => .inr (Nat.le_of_succ_le h)), hk9 b (by rcases hf with h | h <;> omega)⟩) hR), hB9⟩
set_option linter.unusedSimpArgs false in
set_option maxRecDepth 100000 in
set_option maxHeartbeats 8000000 in
theorem rchoose_f {F : Nat → Prop} (l : List Tr) (a : Option Addr) (cap : Nat) (w : World) (h : TrRw F w l a cap) (hsz : (l.flatMap tcpart).length ≤ 4000000) (hsl : l.length ≤ 4000000) :
  Calls Tryz.prog 59 #[.slice a l.length cap] w fun e w' => ∃ a' cap', e = .returned (tV (tchoose l) a' cap') ∧ TrX (fun b => F b ∨ w.heap.size ≤ b) w' (tchoose l) a' cap' ∧ Below w.heap.size w w' := by
 obtain ⟨i0, hi, hz0, hz1, hz2⟩ := t_info
 obtain ⟨J, hJ⟩ : ∃ J, J = tchoose l := ⟨_, rfl⟩
 rw [← hJ]
 have HJ0 : Hid (J = mkT 3 (l.flatMap tcpart)) := Lib.hid hJ
 clear hJ
 have hin : TrRw (fun b => F b ∧ b < w.heap.size) w l a cap := h.keep (Nat.le_refl _) (fun b hf hl => ⟨⟨hf, hl⟩, fun _ => rfl⟩)
 have hl1 := h.1
 have hl2 := h.2.1
 unfold maxLen at hl2
 clear h
 have Hsz := Lib.hid hsz
 clear hsz
 have hP0 := Blk.new w zC 36 w.heap.size rfl
 have hB0 := (Below.refl w.heap.size w).alloc (Nat.le_refl _) (.cells zC 36)
 go_enter Tryz.func59, Tryz.ntmps59
 go_wp2_with fail
 go_loopw [3, 7] (fun s i wr => ∃ (k : Nat) (us : List Value) (pv : Value), k ≤ l.length ∧ i = .int .i64 k ∧ pv = s ∧ TOwn (fun b => F b ∧ b < w.heap.size) (w.heap.size + 1) wr ((l.take k).flatMap tcpart) pv us ∧ Blk wr w.heap.size zC 36 ∧ Below w.heap.size w wr) (fun _ i _ => l.length - (intOf i).toNat)
 case atStart => exact ⟨0, [], _, by omega, rfl, rfl, TOwn.nil _ _ _, hP0, hB0⟩
 case round =>
  clear hP0 hB0
  obtain ⟨k, us, pv, hk, rfl, hpv, hO, hP, hV⟩ := hrel
  subst hpv
  have hlow : ∀ b, b < w.heap.size → OffV pv b := fun b hb e => by have := own_of hO.1 b e; omega
  by_cases hlt : k < l.length
  ·have hrow : TrRw (fun b => F b ∧ b < w.heap.size) wr l a cap := hin.keep hV.size (fun b hf hl => ⟨hf, fun o => hV.cell (p := ⟨b, o, none⟩) hf.2⟩)
   obtain ⟨b, o, rfl, hbF, hbl, hx⟩ := hrow.2.2 (by omega)
   obtain ⟨a', cap', h9, hxx⟩ := hx k hlt
   have Htk := Lib.hid (tflat_take tcpart l k hlt)
   have hfl := tflat_le tcpart l (k + 1)
   rw [Htk.out, List.length_append] at hfl
   have hfl2 : ((l.take k).flatMap tcpart).length + (tcpart l[k]).length ≤ 4000000 := Nat.le_trans hfl Hsz.out
   obtain ⟨c0, c1, c2, c3, c4, c5, c6, c7, c8⟩ := h9
   have hprt := hxx.down
   have hpl := hprt.1
   have hpm := hprt.2.1
   unfold maxLen at hpm
   clear hx hfl hrow
   generalize l[k] = x at *
   have Hh := Lib.hid hlow
   clear hlow
   by_cases k2 : x.kind = 3
   ·have e2 : (x.kind == 3) = true := by simp [k2]
    have Ht : Hid (tcpart x = x.parts) := Lib.hid (by unfold tcpart; rw [if_pos k2])
    rw [Ht.out] at hfl2
    clear k2
    obtain ⟨vs, hch, hnews⟩ := hprt.news
    have hvl := hch.len
    have hv1 := hch.one
    have hch2 : Chunks (fun b => (F b ∧ b < w.heap.size) ∧ OffV pv b) wr x.parts vs := hch.keep (Nat.le_refl _) (fun b hf _ => ⟨⟨hf, Hh.out b hf.2⟩, fun _ => rfl⟩)
    have hm1 : ((l.take k).flatMap tcpart).length + x.parts.length ≤ maxLen := by unfold maxLen; omega
    have hm2 : (((l.take k).flatMap tcpart).length + x.parts.length) * 88 ≤ 140737488355328 := by omega
    have hwb : w.heap.size + 1 ≤ wr.heap.size := hP.lt
    have Hvl := Lib.hid hvl
    clear hvl hprt hch c1 c2 c3 c4 c6 c7 c8 hfl2
    go_wp2_with (at_builtin; refine wpList_append_any _ rfl _ _ 34 rfl (w.heap.size + 1) 36 i0 (.agg zC) 9 88 Tryz.underlying34 hi hz0 hz1 hz2 rfl (by decide) _ _ _ rfl hO.1 _ _ _ vs rfl Hvl.out hnews hv1 hm1 hm2 hwb ?_; intro v6 w6 hown6 hgrow6 hat6)
    have hO6 := hO.push hch2 hown6 hgrow6 hat6
    have hP6 := hP.grown hgrow6 (fun k hk => by have := own_of hO.1 k hk; omega)
    have hV6 := hV.grown hgrow6 hV.size (fun k hk => by have := own_of hO.1 k hk; omega)
    clear hO hP hV hown6 hgrow6 hat6
    go_wp2_with fail
    go_roundw
    case rel => exact ⟨k + 1, us ++ vs, v6, by omega, by go_num, rfl, by rw [Htk.out, Ht.out]; exact hO6, hP6, hV6⟩
    case measure => simp [intOf]; omega
   ·have e2 : (x.kind == 3) = false := by simp [k2]
    have Ht : Hid (tcpart x = [x]) := Lib.hid (by unfold tcpart; rw [if_neg k2])
    rw [Ht.out] at hfl2
    clear k2
    have hwb : w.heap.size + 1 ≤ wr.heap.size := hP.lt
    have hch2 : Chunks (fun b => (F b ∧ b < w.heap.size) ∧ OffV pv b) wr [x] (tC x a' cap').toList := Chunks.single (hxx.keep (Nat.le_refl _) (fun b hf _ => ⟨⟨hf, Hh.out b hf.2⟩, fun _ => rfl⟩))
    have hv1 := hch2.one
    have hm1 : ((l.take k).flatMap tcpart).length + 1 ≤ maxLen := by unfold maxLen; simp only [List.length_cons, List.length_nil] at hfl2; omega
    have hm2 : (((l.take k).flatMap tcpart).length + 1) * 88 ≤ 140737488355328 := by simp only [List.length_cons, List.length_nil] at hfl2; omega
    have hA := (Below.refl wr.heap.size wr).alloc (Nat.le_refl _) (.cells (tC x a' cap') 36)
    have hOA := hO.below hA
    have hPA := hP.alloc (.cells (tC x a' cap') 36)
    have hVA := hV.alloc hV.size (.cells (tC x a' cap') 36)
    have hchA : Chunks (fun b => (F b ∧ b < w.heap.size) ∧ OffV pv b) (wr.alloc (.cells (tC x a' cap') 36)) [x] (tC x a' cap').toList := hch2.keep hA.size (fun b hf hl => ⟨hf, fun o => hA.cell (p := ⟨b, o, none⟩) hl⟩)
    have hnw := news_new wr x a' cap' 36 wr.heap.size rfl
    clear hprt hfl2 hch2
    go_wp2_with (at_builtin; refine wpList_append_any _ rfl _ _ 34 rfl (w.heap.size + 1) 36 i0 (.agg zC) 9 88 Tryz.underlying34 hi hz0 hz1 hz2 rfl (by decide) _ _ _ rfl hOA.1 (some ⟨wr.heap.size, 0, none⟩) 1 1 (tC x a' cap').toList rfl rfl (fun _ => ⟨_, rfl, hnw⟩) hv1 hm1 hm2 (by simp; omega) ?_; intro v6 w6 hown6 hgrow6 hat6)
    have hO6 := hOA.push hchA hown6 hgrow6 hat6
    have hP6 := hPA.grown hgrow6 (fun k hk => by have := own_of hOA.1 k hk; omega)
    have hV6 := hVA.grown hgrow6 hVA.size (fun k hk => by have := own_of hOA.1 k hk; omega)
    clear hO hP hV hown6 hgrow6 hat6 hOA hPA hVA hA hchA hnw c0 c1 c2 c3 c4 c5 c6 c7 c8
    go_wp2_with fail
    go_roundw
    case rel => exact ⟨k + 1, us ++ (tC x a' cap').toList, v6, by omega, by go_num, rfl, by rw [Htk.out, Ht.out]; exact hO6, hP6, hV6⟩
    case measure => simp [intOf]; omega
  ·obtain rfl : k = l.length := by omega
   rw [List.take_of_length_le (Nat.le_refl _)] at hO
   obtain ⟨a9, cap9, rfl, hR⟩ := hO.row
   have hszz := Hsz.out
   have HJ := Lib.hid HJ0.out
   clear HJ0 Hsz
   generalize l.flatMap tcpart = xs at *
   have p0 := (hP.cell 0).trans rfl
   have p1 := (hP.cell 1).trans rfl
   have p2 := (hP.cell 2).trans rfl
   have p3 := (hP.cell 3).trans rfl
   have p4 := (hP.cell 4).trans rfl
   have p5 := (hP.cell 5).trans rfl
   have p6 := (hP.cell 6).trans rfl
   have p7 := (hP.cell 7).trans rfl
   have p8 := (hP.cell 8).trans rfl
   have z0 := hP.frozen 0
   have z1 := hP.frozen 1
   have z2 := hP.frozen 2
   have z3 := hP.frozen 3
   have z4 := hP.frozen 4
   have z5 := hP.frozen 5
   have z6 := hP.frozen 6
   have z7 := hP.frozen 7
   have z8 := hP.frozen 8
   have hbl := hP.lt
   clear hO hin
   rcases xs with _ | ⟨x, _ | ⟨y, ys⟩⟩
   ·have HJ2 : Hid (J = tz) := Lib.hid HJ.out
    clear HJ
    obtain rfl := HJ2.out
    go_wp2_with fail
    obtain ⟨w9, hw9⟩ : ∃ w9, w9 = _ := ⟨_, rfl⟩
    obtain ⟨hB9, hk9, hs9, d0, d1, d2, d3, d4, d5, d6, d7, d8⟩ := put9 hV (Nat.le_refl _) hP _ _ _ _ _ _ _ _ _ w9 hw9.symm
    rw [← hw9]
    clear hw9
    refine bodyPost_ret (v := tV tz none 0) (by simp [results, Tryz.results59, go_sem, tV, tz, Tr.kind, Tr.set, Tr.parts, Tr.mn, Tr.mx, Tr.num, ow_zero, d0, d1, d2, d3, d4, d5, d6, d7, d8]) rfl ⟨none, 0, rfl, TrRw.up (TrRw.nil _ _ _ _ (Nat.zero_le _)), hB9⟩
   ·have HJ2 : Hid (J = x) := Lib.hid HJ.out
    clear HJ
    obtain rfl := HJ2.out
    obtain ⟨b, o, rfl, _, hbb, hx⟩ := hR.2.2 (by simp)
    obtain ⟨a', cap', h9, hxx⟩ := hx 0 (by simp)
    simp only [Nat.zero_mul, Nat.add_zero, List.getElem_cons_zero] at h9 hxx
    obtain ⟨c0, c1, c2, c3, c4, c5, c6, c7, c8⟩ := h9
    have hR1 := hR.1
    have hR2 := hR.2.1
    unfold maxLen at hR2
    clear hx hR
    simp only [List.length_cons, List.length_nil, Nat.zero_add] at hR1 ⊢
    go_wp2_with fail
    obtain ⟨w9, hw9⟩ : ∃ w9, w9 = _ := ⟨_, rfl⟩
    obtain ⟨hB9, hk9, hs9, d0, d1, d2, d3, d4, d5, d6, d7, d8⟩ := put9 hV (Nat.le_refl _) hP _ _ _ _ _ _ _ _ _ w9 hw9.symm
    rw [← hw9]
    clear hw9
    refine bodyPost_ret (v := tV J a' cap') (by simp [results, Tryz.results59, go_sem, tV, d0, d1, d2, d3, d4, d5, d6, d7, d8]) rfl ⟨a', cap', rfl, hxx.keep (by rw [hs9]; exact Nat.le_refl _) (fun b hf _ => ⟨hf.elim (fun h => .inl h.1) (fun h => .inr (Nat.le_of_succ_le h)), hk9 b (by rcases hf with h | h <;> omega)⟩), hB9⟩
   ·have HJ2 : Hid (J = .mk 3 oz 0 0 0 (x :: y :: ys)) := Lib.hid HJ.out
    clear HJ
    have e0 : (((x :: y :: ys).length : Int) == 0) = false := by simp; omega
    have e1 : (((x :: y :: ys).length : Int) == 1) = false := by simp; omega
    generalize x :: y :: ys = xs at *
    obtain rfl := HJ2.out
    go_wp2_with fail
    obtain ⟨w9, hw9⟩ : ∃ w9, w9 = _ := ⟨_, rfl⟩
    obtain ⟨hB9, hk9, hs9, d0, d1, d2, d3, d4, d5, d6, d7, d8⟩ := put9 hV (Nat.le_refl _) hP _ _ _ _ _ _ _ _ _ w9 hw9.symm
    rw [← hw9]
    clear hw9
    refine bodyPost_ret (v := tV (.mk 3 oz 0 0 0 xs) a9 cap9) (by simp [results, Tryz.results59, go_sem, tV, Tr.kind, Tr.set, Tr.parts, Tr.mn, Tr.mx, Tr.num, ow_zero, d0, d1, d2, d3, d4, d5, d6, d7, d8]) rfl ⟨a9, cap9, rfl, TrRw.up (t := .mk 3 oz 0 0 0 xs) (TrRw.keep (F := fun b => (F b ∧ b < w.heap.size) ∨ w.heap.size + 1 ≤ b) (by rw [hs9]; exact Nat.le_refl _) (fun b hf _ => ⟨hf.elim (fun h => .inl h.1) (fun h => .inr (Nat.le_of_succ_le h)), hk9 b (by rcases hf with h | h <;> omega)⟩) hR), hB9⟩
end Go.Proofs.YtkejeiopfblkgaaGreatDoor
namespace Go.Proofs.YtkejeiopfblkgaaGreatDoor
open Go Go.RowKit
mutual
/-- The document's node of what a regex is made of. -/
def unc : Nd → Tr
 | .empty => tz
 | .one s => .mk 1 s 0 0 0 []
 | .cat l => .mk 2 oz 0 0 0 (uncs l)
 | .alt l => .mk 3 oz 0 0 0 (uncs l)
 | .rep d mn mx => .mk 4 oz mn mx 0 [unc d]
 | .group n d => .mk 5 oz 0 0 n [unc d]
 | .back n => .mk 6 oz 0 0 n []
 | .start => .mk 7 oz 0 0 0 []
 | .fin => .mk 8 oz 0 0 0 []
def uncs : List Nd → List Tr
 | [] => []
 | d :: ds => unc d :: uncs ds
end
theorem uncs_map (l : List Nd) : uncs l = l.map unc := by
 induction l with
 | nil => rfl
 | cons d ds ih => rw [uncs, ih]; rfl
mutual
theorem canon_unc : ∀ d : Nd, canon (unc d) = d
 | .empty => rfl
 | .one _ => rfl
 | .cat l => congrArg Nd.cat (canons_uncs l)
 | .alt l => congrArg Nd.alt (canons_uncs l)
 | .rep d mn mx => congrArg (fun x => Nd.rep x mn mx) (canon_unc d)
 | .group n d => congrArg (Nd.group n) (canon_unc d)
 | .back _ => rfl
 | .start => rfl
 | .fin => rfl
theorem canons_uncs : ∀ l : List Nd, canons (uncs l) = l
 | [] => rfl
 | d :: ds => by rw [uncs, canons, canon_unc d, canons_uncs ds]
end
mutual
theorem known_unc : ∀ d : Nd, tknown (unc d) = true
 | .empty => rfl
 | .one _ => rfl
 | .cat l => known_uncs l
 | .alt l => known_uncs l
 | .rep d _ _ => by show (true && (tknown (unc d) && true)) = true; rw [known_unc d]; rfl
 | .group _ d => by show (true && (tknown (unc d) && true)) = true; rw [known_unc d]; rfl
 | .back _ => rfl
 | .start => rfl
 | .fin => rfl
theorem known_uncs : ∀ l : List Nd, tknowns (uncs l) = true
 | [] => rfl
 | d :: ds => by rw [uncs, tknowns, known_unc d, known_uncs ds]; rfl
end
def RefR (d : Nd) (w : World) (e : Ending) (w' : World) : Prop := ∃ a cap, e = .returned (tV (unc d) a cap) ∧ TrX (fun b => w.heap.size ≤ b) w' (unc d) a cap ∧ Below w.heap.size w w'
set_option linter.unusedSimpArgs false in
set_option maxRecDepth 100000 in
set_option maxHeartbeats 4000000 in
theorem llist_of {F : Nat → Prop} (n : Nat) (ih : ∀ (d : Nd) (v : Value) (w : World), nsize d ≤ n → NdX F w d v → Calls Tryz.prog 24 #[v] w (RefR d w))
  (l : List Nd) (a : Option Addr) (cap : Nat) (w : World) (h : NdRw F w l a cap) (hs : nsizes l ≤ n) (hn : n ≤ 4000000) :
  Calls Tryz.prog 42 #[.slice a l.length cap] w fun e w' => ∃ a' cap', e = .returned (.slice a' l.length cap') ∧ TrRw (fun b => w.heap.size ≤ b) w' (l.map unc) a' cap' ∧ Below w.heap.size w w' := by
 obtain ⟨i0, hi, hz0, hz1, hz2⟩ := t_info
 have hl1 := h.1
 have hl2 := h.2.1
 unfold maxLen at hl2
 have hlen := nsizes_length l
 have Hs := Lib.hid hs
 have hln : l.length ≤ 4000000 := by omega
 clear hs hlen
 go_enter Tryz.func42, Tryz.ntmps42
 go_wp2_with fail
 go_loopw [3, 8] (fun s i wr => ∃ (k : Nat) (us : List Value) (pv : Value), k ≤ l.length ∧ i = .int .i64 k ∧ pv = s ∧ TOwn (fun b => w.heap.size ≤ b) w.heap.size wr ((l.take k).map unc) pv us ∧ Below w.heap.size w wr) (fun _ i _ => l.length - (intOf i).toNat)
 case atStart => exact ⟨0, [], _, by omega, rfl, rfl, TOwn.nil _ _ _, Below.refl _ _⟩
 case round =>
  obtain ⟨k, us, pv, hk, rfl, hpv, hO, hV⟩ := hrel
  subst hpv
  by_cases hlt : k < l.length
  ·have hrow := h.below hV
   obtain ⟨b, o, rfl, hbF, hbl, hx⟩ := hrow.2.2 (by omega)
   obtain ⟨u, hu, hnx⟩ := hx k hlt
   have Htk := Lib.hid (show (l.take (k + 1)).map unc = (l.take k).map unc ++ [unc l[k]] by rw [List.take_succ_eq_append_getElem hlt, List.map_append]; rfl)
   have hsz : nsize l[k] ≤ n := by
    have h1 := nsizes_take l k hlt
    have h2 := nsizes_le l (k + 1)
    have := Hs.out
    omega
   have hlk : ((l.take k).map unc).length = k := by rw [List.length_map, List.length_take]; omega
   have Hlk := Lib.hid hlk
   clear hx hrow hlk
   generalize l[k] = x at *
   have hI := ih x u wr hsz hnx
   unfold RefR tV at hI
   have hsh := hnx.elim fun _ h => nd_shape h
   have hm1 : ((l.take k).map unc).length + 1 ≤ maxLen := by rw [Hlk.out]; unfold maxLen; omega
   have hm2 : (((l.take k).map unc).length + 1) * 88 ≤ 140737488355328 := by rw [Hlk.out]; omega
   have Hm1 := Lib.hid hm1
   have Hm2 := Lib.hid hm2
   clear hm1 hm2 hnx hsz
   rcases hsh with ⟨T1, p1, rfl⟩ | rfl
   all_goals
    go_wp2_with fail
    refine hI.mono ?_
    rintro e w2 ⟨a', cap', rfl, hxx, b2⟩
    have hO2 := hO.below b2
    have hV2 := hV.trans (b2.mono hV.size)
    have hlo := fun g hg => town_lt hO.1 g hg
    have hch : Chunks (fun b => w.heap.size ≤ b ∧ OffV pv b) w2 [unc x] (tC (unc x) a' cap').toList := Chunks.single (hxx.keep (Nat.le_refl _) (fun b hf _ => ⟨⟨Nat.le_trans hV.size hf, fun e => by have := hlo b e; omega⟩, fun _ => rfl⟩))
    have hv1 := hch.one
    have hA := (Below.refl w2.heap.size w2).alloc (Nat.le_refl _) (.cells (tC (unc x) a' cap') 36)
    have hOA := hO2.below hA
    have hVA := hV2.alloc hV2.size (.cells (tC (unc x) a' cap') 36)
    have hchA : Chunks (fun b => w.heap.size ≤ b ∧ OffV pv b) (w2.alloc (.cells (tC (unc x) a' cap') 36)) [unc x] (tC (unc x) a' cap').toList := hch.keep hA.size (fun b hf hl => ⟨hf, fun o => hA.cell (p := ⟨b, o, none⟩) hl⟩)
    have hnw := news_new w2 (unc x) a' cap' 36 w2.heap.size rfl
    have hwb : w.heap.size ≤ w2.heap.size := hV2.size
    clear hI hO hV hO2 hV2 hch hlo hxx b2 hu
    go_wp2_with (at_builtin; refine wpList_append_any _ rfl _ _ 34 rfl w.heap.size 36 i0 (.agg zC) 9 88 Tryz.underlying34 hi hz0 hz1 hz2 rfl (by decide) _ _ _ rfl hOA.1 (some ⟨w2.heap.size, 0, none⟩) 1 1 (tC (unc x) a' cap').toList rfl rfl (fun _ => ⟨_, rfl, hnw⟩) hv1 Hm1.out Hm2.out (by simp; omega) ?_; intro v6 w6 hown6 hgrow6 hat6)
    have hO6 := hOA.push hchA hown6 hgrow6 hat6
    have hV6 := hVA.grown hgrow6 hVA.size (fun k hk => own_of hOA.1 k hk)
    clear hown6 hgrow6 hat6 hOA hVA hA hchA hnw
    go_wp2_with fail
    go_roundw
    case rel => exact ⟨k + 1, us ++ (tC (unc x) a' cap').toList, v6, by omega, by go_num, rfl, by rw [Htk.out]; exact hO6, hV6⟩
    case measure => simp [intOf]; omega
  ·obtain rfl : k = l.length := by omega
   rw [List.take_of_length_le (Nat.le_refl _)] at hO
   obtain ⟨a9, cap9, rfl, hR⟩ := hO.row
   rw [List.length_map]
   go_wp2_with fail
   go_ret
   exact ⟨a9, cap9, rfl, hR.keep (Nat.le_refl _) (fun b hf _ => ⟨hf.elim id id, fun _ => rfl⟩), hV⟩
abbrev QC (w : World) (q : Nat) (v0 v1 v2 : Value) : Prop := w.cell? ⟨q, 0, none⟩ = some v0 ∧ w.cell? ⟨q, 1, none⟩ = some v1 ∧ w.cell? ⟨q, 2, none⟩ = some v2 ∧ q < w.heap.size
theorem qc_all {w : World} {q : Nat} {v0 v1 v2 : Value} {T : TypeId} (h : Blk w q #[v0, v1, v2] T) : QC w q v0 v1 v2 := ⟨(h.cell 0).trans rfl, (h.cell 1).trans rfl, (h.cell 2).trans rfl, h.lt⟩
theorem qc_drew {w : World} {q : Nat} {v0 v1 v2 : Value} (h : QC w q v0 v1 v2) : QC w.drew q v0 v1 v2 := h
theorem qc_step {w w' : World} {q : Nat} {v0 v1 v2 : Value} (hb : Below w.heap.size w w') (h : QC w q v0 v1 v2) : QC w' q v0 v1 v2 :=
 ⟨(hb.cell (p := ⟨q, 0, none⟩) h.2.2.2).trans h.1, (hb.cell (p := ⟨q, 1, none⟩) h.2.2.2).trans h.2.1, (hb.cell (p := ⟨q, 2, none⟩) h.2.2.2).trans h.2.2.1, Nat.lt_of_lt_of_le h.2.2.2 hb.size⟩
theorem cell_set_far {w : World} {p : Addr} {v : Value} {q o : Nat} (hp : p.block ≠ q) : (w.setCell p v).cell? ⟨q, o, none⟩ = w.cell? ⟨q, o, none⟩ := World.cell?_of_block (w := w) (a := ⟨q, o, none⟩) (Below.heap_setCell _ _ _ _ (fun e => hp e.symm))
theorem qc_set {w : World} {q : Nat} {v0 v1 v2 : Value} {p : Addr} {v : Value} (hp : p.block ≠ q) (h : QC w q v0 v1 v2) : QC (w.setCell p v) q v0 v1 v2 := ⟨(cell_set_far hp).trans h.1, (cell_set_far hp).trans h.2.1, (cell_set_far hp).trans h.2.2.1, by simp [World.setCell]; exact h.2.2.2⟩
abbrev QD (w : World) (q : Nat) (v0 v1 : Value) : Prop := w.cell? ⟨q, 0, none⟩ = some v0 ∧ w.cell? ⟨q, 1, none⟩ = some v1 ∧ q < w.heap.size
theorem qd_all {w : World} {q : Nat} {v0 v1 : Value} {T : TypeId} (h : Blk w q #[v0, v1] T) : QD w q v0 v1 := ⟨(h.cell 0).trans rfl, (h.cell 1).trans rfl, h.lt⟩
theorem qd_drew {w : World} {q : Nat} {v0 v1 : Value} (h : QD w q v0 v1) : QD w.drew q v0 v1 := h
theorem qd_step {w w' : World} {q : Nat} {v0 v1 : Value} (hb : Below w.heap.size w w') (h : QD w q v0 v1) : QD w' q v0 v1 :=
 ⟨(hb.cell (p := ⟨q, 0, none⟩) h.2.2).trans h.1, (hb.cell (p := ⟨q, 1, none⟩) h.2.2).trans h.2.1, Nat.lt_of_lt_of_le h.2.2 hb.size⟩
theorem qd_set {w : World} {q : Nat} {v0 v1 : Value} {p : Addr} {v : Value} (hp : p.block ≠ q) (h : QD w q v0 v1) : QD (w.setCell p v) q v0 v1 := ⟨(cell_set_far hp).trans h.1, (cell_set_far hp).trans h.2.1, by simp [World.setCell]; exact h.2.2⟩
set_option linter.unusedSimpArgs false in
set_option maxRecDepth 100000 in
set_option maxHeartbeats 8000000 in
theorem lref_any {F : Nat → Prop} : ∀ (n : Nat), n ≤ 4000000 → ∀ (d : Nd) (v : Value) (w : World), nsize d ≤ n → NdX F w d v → Calls Tryz.prog 24 #[v] w (RefR d w) := by
 intro n
 induction n with
 | zero => intro _ d v w hs; have := nsize_kids d; omega
 | succ n ih0 =>
  intro hn d v w hs h
  have ih := ih0 (by omega)
  have hP0 := Blk.new w zC 36 w.heap.size rfl
  have hB0 := (Below.refl w.heap.size w).alloc (Nat.le_refl _) (.cells zC 36)
  rcases nd_kinds h with ⟨rfl, rfl | rfl⟩ | ⟨s, rfl, rfl⟩ | ⟨l, a, cap, rfl, rfl, hr⟩ | ⟨l, a, cap, rfl, rfl, hr⟩ | ⟨d', mn, mx, u, rfl, rfl, hu⟩ | ⟨num, d', u, rfl, rfl, hu⟩ | ⟨num, rfl, rfl⟩ | ⟨rfl, rfl⟩ | ⟨rfl, rfl⟩
  ·go_enter Tryz.func24, Tryz.ntmps24
   go_wp2_with fail
   refine bodyPost_ret (v := tV (unc (.empty)) none 0) (by simp [results, Tryz.results24, go_sem, tV, unc, tz, Tr.kind, Tr.set, Tr.parts, Tr.mn, Tr.mx, Tr.num, ow_zero]) rfl ⟨none, 0, rfl, TrRw.up (TrRw.nil _ _ _ _ (Nat.zero_le _)), ?_⟩
   repeat (first | (with_reducible exact Below.refl _ _) | refine Below.setCell ?_ (by first | omega | (simp; omega) | simp) _ | refine Below.alloc ?_ (by first | omega | (simp; omega) | simp) _)
  ·go_enter Tryz.func24, Tryz.ntmps24
   go_wp2_with fail
   refine bodyPost_ret (v := tV (unc (.empty)) none 0) (by simp [results, Tryz.results24, go_sem, tV, unc, tz, Tr.kind, Tr.set, Tr.parts, Tr.mn, Tr.mx, Tr.num, ow_zero]) rfl ⟨none, 0, rfl, TrRw.up (TrRw.nil _ _ _ _ (Nat.zero_le _)), ?_⟩
   repeat (first | (with_reducible exact Below.refl _ _) | refine Below.setCell ?_ (by first | omega | (simp; omega) | simp) _ | refine Below.alloc ?_ (by first | omega | (simp; omega) | simp) _)
  ·go_enter Tryz.func24, Tryz.ntmps24
   go_wp2_with fail
   refine bodyPost_ret (v := tV (unc (.one s)) none 0) (by simp [results, Tryz.results24, go_sem, tV, unc, tz, Tr.kind, Tr.set, Tr.parts, Tr.mn, Tr.mx, Tr.num, ow_zero]) rfl ⟨none, 0, rfl, TrRw.up (TrRw.nil _ _ _ _ (Nat.zero_le _)), ?_⟩
   repeat (first | (with_reducible exact Below.refl _ _) | refine Below.setCell ?_ (by first | omega | (simp; omega) | simp) _ | refine Below.alloc ?_ (by first | omega | (simp; omega) | simp) _)
  ·have hA1 := (Below.refl w.heap.size w).alloc (Nat.le_refl _) (.cells zC 36)
   have hA2 := hA1.alloc hA1.size (.cells #[.slice a l.length cap] 45)
   have hP2 := hP0.alloc (.cells #[.slice a l.length cap] 45)
   have hI := llist_of n ih l a cap _ (hr.below hA2) (by simp only [nsize] at hs; omega) (by omega)
   have hl1 := hr.1
   have hl2 := hr.2.1
   unfold maxLen at hl2
   clear h hr hP0 hB0 hA1
   go_enter Tryz.func24, Tryz.ntmps24
   go_wp2_with fail
   refine hI.mono ?_
   rintro e w2 ⟨a', cap', rfl, hR, b2⟩
   have hP3 := hP2.below b2 hP2.lt
   have hB3 := hA2.trans (b2.mono hA2.size)
   have hR0 := hR.1
   have p0 := (hP3.cell 0).trans rfl
   have z0 := hP3.frozen 0
   have p1 := (hP3.cell 1).trans rfl
   have z1 := hP3.frozen 1
   have p2 := (hP3.cell 2).trans rfl
   have z2 := hP3.frozen 2
   have p3 := (hP3.cell 3).trans rfl
   have z3 := hP3.frozen 3
   have p4 := (hP3.cell 4).trans rfl
   have z4 := hP3.frozen 4
   have p5 := (hP3.cell 5).trans rfl
   have z5 := hP3.frozen 5
   have p6 := (hP3.cell 6).trans rfl
   have z6 := hP3.frozen 6
   have p7 := (hP3.cell 7).trans rfl
   have z7 := hP3.frozen 7
   have p8 := (hP3.cell 8).trans rfl
   have z8 := hP3.frozen 8
   clear hI hP2 b2
   go_wp2_with fail
   (obtain ⟨w9, hw9⟩ : ∃ w9, w9 = _ := ⟨_, rfl⟩; obtain ⟨hB9, hk9, hs9, d0, d1, d2, d3, d4, d5, d6, d7, d8⟩ := put9 hB3 (Nat.le_refl _) hP3 _ _ _ _ _ _ _ _ _ w9 hw9.symm; rw [← hw9]; clear hw9)
   refine bodyPost_ret (v := tV (unc (.cat l)) a' cap') (by simp [results, Tryz.results24, go_sem, tV, unc, uncs_map, Tr.kind, Tr.set, Tr.parts, Tr.mn, Tr.mx, Tr.num, ow_zero, d0, d1, d2, d3, d4, d5, d6, d7, d8]) rfl ⟨a', cap', rfl, TrRw.up (t := unc (.cat l)) (by show TrRw _ _ (uncs l) _ _; rw [uncs_map]; exact hR.keep (by rw [hs9]; exact Nat.le_refl _) (fun b hf _ => ⟨by simp at hf; omega, hk9 b (by simp at hf; omega)⟩)), hB9⟩
  ·have hA1 := (Below.refl w.heap.size w).alloc (Nat.le_refl _) (.cells zC 36)
   have hA2 := hA1.alloc hA1.size (.cells #[.slice a l.length cap] 56)
   have hP2 := hP0.alloc (.cells #[.slice a l.length cap] 56)
   have hI := llist_of n ih l a cap _ (hr.below hA2) (by simp only [nsize] at hs; omega) (by omega)
   have hl1 := hr.1
   have hl2 := hr.2.1
   unfold maxLen at hl2
   clear h hr hP0 hB0 hA1
   go_enter Tryz.func24, Tryz.ntmps24
   go_wp2_with fail
   refine hI.mono ?_
   rintro e w2 ⟨a', cap', rfl, hR, b2⟩
   have hP3 := hP2.below b2 hP2.lt
   have hB3 := hA2.trans (b2.mono hA2.size)
   have hR0 := hR.1
   have p0 := (hP3.cell 0).trans rfl
   have z0 := hP3.frozen 0
   have p1 := (hP3.cell 1).trans rfl
   have z1 := hP3.frozen 1
   have p2 := (hP3.cell 2).trans rfl
   have z2 := hP3.frozen 2
   have p3 := (hP3.cell 3).trans rfl
   have z3 := hP3.frozen 3
   have p4 := (hP3.cell 4).trans rfl
   have z4 := hP3.frozen 4
   have p5 := (hP3.cell 5).trans rfl
   have z5 := hP3.frozen 5
   have p6 := (hP3.cell 6).trans rfl
   have z6 := hP3.frozen 6
   have p7 := (hP3.cell 7).trans rfl
   have z7 := hP3.frozen 7
   have p8 := (hP3.cell 8).trans rfl
   have z8 := hP3.frozen 8
   clear hI hP2 b2
   go_wp2_with fail
   (obtain ⟨w9, hw9⟩ : ∃ w9, w9 = _ := ⟨_, rfl⟩; obtain ⟨hB9, hk9, hs9, d0, d1, d2, d3, d4, d5, d6, d7, d8⟩ := put9 hB3 (Nat.le_refl _) hP3 _ _ _ _ _ _ _ _ _ w9 hw9.symm; rw [← hw9]; clear hw9)
   refine bodyPost_ret (v := tV (unc (.alt l)) a' cap') (by simp [results, Tryz.results24, go_sem, tV, unc, uncs_map, Tr.kind, Tr.set, Tr.parts, Tr.mn, Tr.mx, Tr.num, ow_zero, d0, d1, d2, d3, d4, d5, d6, d7, d8]) rfl ⟨a', cap', rfl, TrRw.up (t := unc (.alt l)) (by show TrRw _ _ (uncs l) _ _; rw [uncs_map]; exact hR.keep (by rw [hs9]; exact Nat.le_refl _) (fun b hf _ => ⟨by simp at hf; omega, hk9 b (by simp at hf; omega)⟩)), hB9⟩
  ·have hsh : (∃ T q, u = .iface T q) ∨ u = .nilIface := hu.elim fun _ h => nd_shape h
   have hA1 := (Below.refl w.heap.size w).alloc (Nat.le_refl _) (.cells zC 36)
   have hA2 := fun o => hA1.alloc hA1.size o
   have hP2 := fun o => hP0.alloc o
   have hI := fun (o : Obj) (w' : World) (hb : Below ((w.alloc (.cells zC 36)).alloc o).heap.size ((w.alloc (.cells zC 36)).alloc o) w') => ih d' u w' (by simp only [nsize] at hs; omega) ((hu.below (hA2 o)).below hb)
   unfold RefR tV at hI
   clear h hP0 hB0 hA1 hu hs
   rcases hsh with ⟨T1, q1, rfl⟩ | rfl
   ·go_enter Tryz.func24, Tryz.ntmps24
    go_upto_region 13 with fail
    have hb2 : Below w.heap.size w _ := hA2 (.cells #[(.iface T1 q1), .int .i64 mn, .int .i64 mx] 106)
    have hbk : Blk _ w.heap.size zC 36 := hP2 (.cells #[(.iface T1 q1), .int .i64 mn, .int .i64 mx] 106)
    have hq := Blk.new (w.alloc (.cells zC 36)) #[(.iface T1 q1), .int .i64 mn, .int .i64 mx] 106 (w.heap.size + 1) (by simp)
    have hI2 := hI (.cells #[(.iface T1 q1), .int .i64 mn, .int .i64 mx] 106)
    have hall := qc_all hq
    clear hI hA2 hP2
    go_region_held3 (fun w' => QC w' (w.heap.size + 1) (.iface T1 q1) (.int .i64 mn) (.int .i64 mx))
     (first | (with_reducible refine qc_set (by simp) (qc_set (by simp) (qc_set (by simp) (qc_set (by simp) (qc_set (by simp) (qc_set (by simp) (qc_set (by simp) (qc_set (by simp) (qc_set (by simp) ?_)))))))); with_reducible assumption) | (with_reducible exact qc_step hb5 (by with_reducible assumption)) | (with_reducible exact qc_step hbX (by with_reducible assumption)) | (with_reducible exact qc_drew hall) | (with_reducible exact hall))
     (first | (go_at_call 24; refine (hI2 _ (by first | exact Below.refl _ _ | exact Below.drew (Below.refl _ _))).mono ?_; rintro e w2 ⟨a', cap', rfl, hxx, hbX⟩; have hbY : Below ((w.alloc (.cells zC 36)).alloc (.cells #[(.iface T1 q1), .int .i64 mn, .int .i64 mx] 106)).heap.size ((w.alloc (.cells zC 36)).alloc (.cells #[(.iface T1 q1), .int .i64 mn, .int .i64 mx] 106)) w2 := (by first | exact hbX | exact (Below.drew (Below.refl _ _)).trans hbX); have hP3 := Blk.below hbk hbY hbk.lt; obtain ⟨W5, hW5⟩ : ∃ W5, w2.alloc (.cells #[.int .i64 (unc d').kind, .int .u64 (ow (unc d').set 0), .int .u64 (ow (unc d').set 1), .int .u64 (ow (unc d').set 2), .int .u64 (ow (unc d').set 3), .slice a' (unc d').parts.length cap', .int .i64 (unc d').mn, .int .i64 (unc d').mx, .int .i64 (unc d').num] 36) = W5 := ⟨_, rfl⟩; have hb5 : Below w2.heap.size w2 W5 := (by rw [← hW5]; exact (Below.refl _ _).alloc (Nat.le_refl _) _); have hP5 := hP3.below hb5 hP3.lt; have p0 := (hP5.cell 0).trans rfl; have z0 := hP5.frozen 0; have p1 := (hP5.cell 1).trans rfl; have z1 := hP5.frozen 1; have p2 := (hP5.cell 2).trans rfl; have z2 := hP5.frozen 2; have p3 := (hP5.cell 3).trans rfl; have z3 := hP5.frozen 3; have p4 := (hP5.cell 4).trans rfl; have z4 := hP5.frozen 4; have p5 := (hP5.cell 5).trans rfl; have z5 := hP5.frozen 5; have p6 := (hP5.cell 6).trans rfl; have z6 := hP5.frozen 6; have p7 := (hP5.cell 7).trans rfl; have z7 := hP5.frozen 7; have p8 := (hP5.cell 8).trans rfl; have z8 := hP5.frozen 8))
    go_wp2_with fail
    have hBW := (hb2.trans (hbY.mono hb2.size)).trans (hb5.mono (Nat.le_trans (hb2.trans (hbY.mono hb2.size)).size (Nat.le_refl _)))
    have hrw : TrRw (fun b => w.heap.size < b) W5 [unc d'] (some ⟨w2.heap.size, 0, none⟩) 1 := by
     rw [← hW5]
     exact trw_one hxx (fun b hf _ => by simp at hf; omega) hP3.lt
    clear hW5
    (obtain ⟨w9, hw9⟩ : ∃ w9, w9 = _ := ⟨_, rfl⟩; obtain ⟨hB9, hk9, hs9, d0, d1, d2, d3, d4, d5, d6, d7, d8⟩ := put9 hBW (Nat.le_refl _) hP5 _ _ _ _ _ _ _ _ _ w9 hw9.symm; rw [← hw9]; clear hw9)
    refine bodyPost_ret (v := tV (unc (.rep d' mn mx)) (some ⟨w2.heap.size, 0, none⟩) 1) (by simp [results, Tryz.results24, go_sem, tV, unc, Tr.kind, Tr.set, Tr.parts, Tr.mn, Tr.mx, Tr.num, ow_zero, d0, d1, d2, d3, d4, d5, d6, d7, d8]) rfl ⟨_, _, rfl, TrRw.up (t := unc (.rep d' mn mx)) (hrw.keep (by rw [hs9]; exact Nat.le_refl _) (fun b hf _ => ⟨Nat.le_of_lt hf, hk9 b (by omega)⟩)), hB9⟩
   ·go_enter Tryz.func24, Tryz.ntmps24
    go_upto_region 13 with fail
    have hb2 : Below w.heap.size w _ := hA2 (.cells #[.nilIface, .int .i64 mn, .int .i64 mx] 106)
    have hbk : Blk _ w.heap.size zC 36 := hP2 (.cells #[.nilIface, .int .i64 mn, .int .i64 mx] 106)
    have hq := Blk.new (w.alloc (.cells zC 36)) #[.nilIface, .int .i64 mn, .int .i64 mx] 106 (w.heap.size + 1) (by simp)
    have hI2 := hI (.cells #[.nilIface, .int .i64 mn, .int .i64 mx] 106)
    have hall := qc_all hq
    clear hI hA2 hP2
    go_region_held3 (fun w' => QC w' (w.heap.size + 1) .nilIface (.int .i64 mn) (.int .i64 mx))
     (first | (with_reducible refine qc_set (by simp) (qc_set (by simp) (qc_set (by simp) (qc_set (by simp) (qc_set (by simp) (qc_set (by simp) (qc_set (by simp) (qc_set (by simp) (qc_set (by simp) ?_)))))))); with_reducible assumption) | (with_reducible exact qc_step hb5 (by with_reducible assumption)) | (with_reducible exact qc_step hbX (by with_reducible assumption)) | (with_reducible exact qc_drew hall) | (with_reducible exact hall))
     (first | (go_at_call 24; refine (hI2 _ (by first | exact Below.refl _ _ | exact Below.drew (Below.refl _ _))).mono ?_; rintro e w2 ⟨a', cap', rfl, hxx, hbX⟩; have hbY : Below ((w.alloc (.cells zC 36)).alloc (.cells #[.nilIface, .int .i64 mn, .int .i64 mx] 106)).heap.size ((w.alloc (.cells zC 36)).alloc (.cells #[.nilIface, .int .i64 mn, .int .i64 mx] 106)) w2 := (by first | exact hbX | exact (Below.drew (Below.refl _ _)).trans hbX); have hP3 := Blk.below hbk hbY hbk.lt; obtain ⟨W5, hW5⟩ : ∃ W5, w2.alloc (.cells #[.int .i64 (unc d').kind, .int .u64 (ow (unc d').set 0), .int .u64 (ow (unc d').set 1), .int .u64 (ow (unc d').set 2), .int .u64 (ow (unc d').set 3), .slice a' (unc d').parts.length cap', .int .i64 (unc d').mn, .int .i64 (unc d').mx, .int .i64 (unc d').num] 36) = W5 := ⟨_, rfl⟩; have hb5 : Below w2.heap.size w2 W5 := (by rw [← hW5]; exact (Below.refl _ _).alloc (Nat.le_refl _) _); have hP5 := hP3.below hb5 hP3.lt; have p0 := (hP5.cell 0).trans rfl; have z0 := hP5.frozen 0; have p1 := (hP5.cell 1).trans rfl; have z1 := hP5.frozen 1; have p2 := (hP5.cell 2).trans rfl; have z2 := hP5.frozen 2; have p3 := (hP5.cell 3).trans rfl; have z3 := hP5.frozen 3; have p4 := (hP5.cell 4).trans rfl; have z4 := hP5.frozen 4; have p5 := (hP5.cell 5).trans rfl; have z5 := hP5.frozen 5; have p6 := (hP5.cell 6).trans rfl; have z6 := hP5.frozen 6; have p7 := (hP5.cell 7).trans rfl; have z7 := hP5.frozen 7; have p8 := (hP5.cell 8).trans rfl; have z8 := hP5.frozen 8))
    go_wp2_with fail
    have hBW := (hb2.trans (hbY.mono hb2.size)).trans (hb5.mono (Nat.le_trans (hb2.trans (hbY.mono hb2.size)).size (Nat.le_refl _)))
    have hrw : TrRw (fun b => w.heap.size < b) W5 [unc d'] (some ⟨w2.heap.size, 0, none⟩) 1 := by
     rw [← hW5]
     exact trw_one hxx (fun b hf _ => by simp at hf; omega) hP3.lt
    clear hW5
    (obtain ⟨w9, hw9⟩ : ∃ w9, w9 = _ := ⟨_, rfl⟩; obtain ⟨hB9, hk9, hs9, d0, d1, d2, d3, d4, d5, d6, d7, d8⟩ := put9 hBW (Nat.le_refl _) hP5 _ _ _ _ _ _ _ _ _ w9 hw9.symm; rw [← hw9]; clear hw9)
    refine bodyPost_ret (v := tV (unc (.rep d' mn mx)) (some ⟨w2.heap.size, 0, none⟩) 1) (by simp [results, Tryz.results24, go_sem, tV, unc, Tr.kind, Tr.set, Tr.parts, Tr.mn, Tr.mx, Tr.num, ow_zero, d0, d1, d2, d3, d4, d5, d6, d7, d8]) rfl ⟨_, _, rfl, TrRw.up (t := unc (.rep d' mn mx)) (hrw.keep (by rw [hs9]; exact Nat.le_refl _) (fun b hf _ => ⟨Nat.le_of_lt hf, hk9 b (by omega)⟩)), hB9⟩
  ·have hsh : (∃ T q, u = .iface T q) ∨ u = .nilIface := hu.elim fun _ h => nd_shape h
   have hA1 := (Below.refl w.heap.size w).alloc (Nat.le_refl _) (.cells zC 36)
   have hA2 := fun o => hA1.alloc hA1.size o
   have hP2 := fun o => hP0.alloc o
   have hI := fun (o : Obj) (w' : World) (hb : Below ((w.alloc (.cells zC 36)).alloc o).heap.size ((w.alloc (.cells zC 36)).alloc o) w') => ih d' u w' (by simp only [nsize] at hs; omega) ((hu.below (hA2 o)).below hb)
   unfold RefR tV at hI
   clear h hP0 hB0 hA1 hu hs
   rcases hsh with ⟨T1, q1, rfl⟩ | rfl
   ·go_enter Tryz.func24, Tryz.ntmps24
    go_upto_region 16 with fail
    have hb2 : Below w.heap.size w _ := hA2 (.cells #[.int .i64 num, (.iface T1 q1)] 77)
    have hbk : Blk _ w.heap.size zC 36 := hP2 (.cells #[.int .i64 num, (.iface T1 q1)] 77)
    have hq := Blk.new (w.alloc (.cells zC 36)) #[.int .i64 num, (.iface T1 q1)] 77 (w.heap.size + 1) (by simp)
    have hI2 := hI (.cells #[.int .i64 num, (.iface T1 q1)] 77)
    have hall := qd_all hq
    clear hI hA2 hP2
    go_region_held3 (fun w' => QD w' (w.heap.size + 1) (.int .i64 num) (.iface T1 q1))
     (first | (with_reducible refine qd_set (by simp) (qd_set (by simp) (qd_set (by simp) (qd_set (by simp) (qd_set (by simp) (qd_set (by simp) (qd_set (by simp) (qd_set (by simp) (qd_set (by simp) ?_)))))))); with_reducible assumption) | (with_reducible exact qd_step hb5 (by with_reducible assumption)) | (with_reducible exact qd_step hbX (by with_reducible assumption)) | (with_reducible exact qd_drew hall) | (with_reducible exact hall))
     (first | (go_at_call 24; refine (hI2 _ (by first | exact Below.refl _ _ | exact Below.drew (Below.refl _ _))).mono ?_; rintro e w2 ⟨a', cap', rfl, hxx, hbX⟩; have hbY : Below ((w.alloc (.cells zC 36)).alloc (.cells #[.int .i64 num, (.iface T1 q1)] 77)).heap.size ((w.alloc (.cells zC 36)).alloc (.cells #[.int .i64 num, (.iface T1 q1)] 77)) w2 := (by first | exact hbX | exact (Below.drew (Below.refl _ _)).trans hbX); have hP3 := Blk.below hbk hbY hbk.lt; obtain ⟨W5, hW5⟩ : ∃ W5, w2.alloc (.cells #[.int .i64 (unc d').kind, .int .u64 (ow (unc d').set 0), .int .u64 (ow (unc d').set 1), .int .u64 (ow (unc d').set 2), .int .u64 (ow (unc d').set 3), .slice a' (unc d').parts.length cap', .int .i64 (unc d').mn, .int .i64 (unc d').mx, .int .i64 (unc d').num] 36) = W5 := ⟨_, rfl⟩; have hb5 : Below w2.heap.size w2 W5 := (by rw [← hW5]; exact (Below.refl _ _).alloc (Nat.le_refl _) _); have hP5 := hP3.below hb5 hP3.lt; have p0 := (hP5.cell 0).trans rfl; have z0 := hP5.frozen 0; have p1 := (hP5.cell 1).trans rfl; have z1 := hP5.frozen 1; have p2 := (hP5.cell 2).trans rfl; have z2 := hP5.frozen 2; have p3 := (hP5.cell 3).trans rfl; have z3 := hP5.frozen 3; have p4 := (hP5.cell 4).trans rfl; have z4 := hP5.frozen 4; have p5 := (hP5.cell 5).trans rfl; have z5 := hP5.frozen 5; have p6 := (hP5.cell 6).trans rfl; have z6 := hP5.frozen 6; have p7 := (hP5.cell 7).trans rfl; have z7 := hP5.frozen 7; have p8 := (hP5.cell 8).trans rfl; have z8 := hP5.frozen 8))
    go_wp2_with fail
    have hBW := (hb2.trans (hbY.mono hb2.size)).trans (hb5.mono (Nat.le_trans (hb2.trans (hbY.mono hb2.size)).size (Nat.le_refl _)))
    have hrw : TrRw (fun b => w.heap.size < b) W5 [unc d'] (some ⟨w2.heap.size, 0, none⟩) 1 := by
     rw [← hW5]
     exact trw_one hxx (fun b hf _ => by simp at hf; omega) hP3.lt
    clear hW5
    (obtain ⟨w9, hw9⟩ : ∃ w9, w9 = _ := ⟨_, rfl⟩; obtain ⟨hB9, hk9, hs9, d0, d1, d2, d3, d4, d5, d6, d7, d8⟩ := put9 hBW (Nat.le_refl _) hP5 _ _ _ _ _ _ _ _ _ w9 hw9.symm; rw [← hw9]; clear hw9)
    refine bodyPost_ret (v := tV (unc (.group num d')) (some ⟨w2.heap.size, 0, none⟩) 1) (by simp [results, Tryz.results24, go_sem, tV, unc, Tr.kind, Tr.set, Tr.parts, Tr.mn, Tr.mx, Tr.num, ow_zero, d0, d1, d2, d3, d4, d5, d6, d7, d8]) rfl ⟨_, _, rfl, TrRw.up (t := unc (.group num d')) (hrw.keep (by rw [hs9]; exact Nat.le_refl _) (fun b hf _ => ⟨Nat.le_of_lt hf, hk9 b (by omega)⟩)), hB9⟩
   ·go_enter Tryz.func24, Tryz.ntmps24
    go_upto_region 16 with fail
    have hb2 : Below w.heap.size w _ := hA2 (.cells #[.int .i64 num, .nilIface] 77)
    have hbk : Blk _ w.heap.size zC 36 := hP2 (.cells #[.int .i64 num, .nilIface] 77)
    have hq := Blk.new (w.alloc (.cells zC 36)) #[.int .i64 num, .nilIface] 77 (w.heap.size + 1) (by simp)
    have hI2 := hI (.cells #[.int .i64 num, .nilIface] 77)
    have hall := qd_all hq
    clear hI hA2 hP2
    go_region_held3 (fun w' => QD w' (w.heap.size + 1) (.int .i64 num) .nilIface)
     (first | (with_reducible refine qd_set (by simp) (qd_set (by simp) (qd_set (by simp) (qd_set (by simp) (qd_set (by simp) (qd_set (by simp) (qd_set (by simp) (qd_set (by simp) (qd_set (by simp) ?_)))))))); with_reducible assumption) | (with_reducible exact qd_step hb5 (by with_reducible assumption)) | (with_reducible exact qd_step hbX (by with_reducible assumption)) | (with_reducible exact qd_drew hall) | (with_reducible exact hall))
     (first | (go_at_call 24; refine (hI2 _ (by first | exact Below.refl _ _ | exact Below.drew (Below.refl _ _))).mono ?_; rintro e w2 ⟨a', cap', rfl, hxx, hbX⟩; have hbY : Below ((w.alloc (.cells zC 36)).alloc (.cells #[.int .i64 num, .nilIface] 77)).heap.size ((w.alloc (.cells zC 36)).alloc (.cells #[.int .i64 num, .nilIface] 77)) w2 := (by first | exact hbX | exact (Below.drew (Below.refl _ _)).trans hbX); have hP3 := Blk.below hbk hbY hbk.lt; obtain ⟨W5, hW5⟩ : ∃ W5, w2.alloc (.cells #[.int .i64 (unc d').kind, .int .u64 (ow (unc d').set 0), .int .u64 (ow (unc d').set 1), .int .u64 (ow (unc d').set 2), .int .u64 (ow (unc d').set 3), .slice a' (unc d').parts.length cap', .int .i64 (unc d').mn, .int .i64 (unc d').mx, .int .i64 (unc d').num] 36) = W5 := ⟨_, rfl⟩; have hb5 : Below w2.heap.size w2 W5 := (by rw [← hW5]; exact (Below.refl _ _).alloc (Nat.le_refl _) _); have hP5 := hP3.below hb5 hP3.lt; have p0 := (hP5.cell 0).trans rfl; have z0 := hP5.frozen 0; have p1 := (hP5.cell 1).trans rfl; have z1 := hP5.frozen 1; have p2 := (hP5.cell 2).trans rfl; have z2 := hP5.frozen 2; have p3 := (hP5.cell 3).trans rfl; have z3 := hP5.frozen 3; have p4 := (hP5.cell 4).trans rfl; have z4 := hP5.frozen 4; have p5 := (hP5.cell 5).trans rfl; have z5 := hP5.frozen 5; have p6 := (hP5.cell 6).trans rfl; have z6 := hP5.frozen 6; have p7 := (hP5.cell 7).trans rfl; have z7 := hP5.frozen 7; have p8 := (hP5.cell 8).trans rfl; have z8 := hP5.frozen 8))
    go_wp2_with fail
    have hBW := (hb2.trans (hbY.mono hb2.size)).trans (hb5.mono (Nat.le_trans (hb2.trans (hbY.mono hb2.size)).size (Nat.le_refl _)))
    have hrw : TrRw (fun b => w.heap.size < b) W5 [unc d'] (some ⟨w2.heap.size, 0, none⟩) 1 := by
     rw [← hW5]
     exact trw_one hxx (fun b hf _ => by simp at hf; omega) hP3.lt
    clear hW5
    (obtain ⟨w9, hw9⟩ : ∃ w9, w9 = _ := ⟨_, rfl⟩; obtain ⟨hB9, hk9, hs9, d0, d1, d2, d3, d4, d5, d6, d7, d8⟩ := put9 hBW (Nat.le_refl _) hP5 _ _ _ _ _ _ _ _ _ w9 hw9.symm; rw [← hw9]; clear hw9)
    refine bodyPost_ret (v := tV (unc (.group num d')) (some ⟨w2.heap.size, 0, none⟩) 1) (by simp [results, Tryz.results24, go_sem, tV, unc, Tr.kind, Tr.set, Tr.parts, Tr.mn, Tr.mx, Tr.num, ow_zero, d0, d1, d2, d3, d4, d5, d6, d7, d8]) rfl ⟨_, _, rfl, TrRw.up (t := unc (.group num d')) (hrw.keep (by rw [hs9]; exact Nat.le_refl _) (fun b hf _ => ⟨Nat.le_of_lt hf, hk9 b (by omega)⟩)), hB9⟩
  ·go_enter Tryz.func24, Tryz.ntmps24
   go_wp2_with fail
   refine bodyPost_ret (v := tV (unc (.back num)) none 0) (by simp [results, Tryz.results24, go_sem, tV, unc, tz, Tr.kind, Tr.set, Tr.parts, Tr.mn, Tr.mx, Tr.num, ow_zero]) rfl ⟨none, 0, rfl, TrRw.up (TrRw.nil _ _ _ _ (Nat.zero_le _)), ?_⟩
   repeat (first | (with_reducible exact Below.refl _ _) | refine Below.setCell ?_ (by first | omega | (simp; omega) | simp) _ | refine Below.alloc ?_ (by first | omega | (simp; omega) | simp) _)
  ·go_enter Tryz.func24, Tryz.ntmps24
   go_wp2_with fail
   refine bodyPost_ret (v := tV (unc (.start)) none 0) (by simp [results, Tryz.results24, go_sem, tV, unc, tz, Tr.kind, Tr.set, Tr.parts, Tr.mn, Tr.mx, Tr.num, ow_zero]) rfl ⟨none, 0, rfl, TrRw.up (TrRw.nil _ _ _ _ (Nat.zero_le _)), ?_⟩
   repeat (first | (with_reducible exact Below.refl _ _) | refine Below.setCell ?_ (by first | omega | (simp; omega) | simp) _ | refine Below.alloc ?_ (by first | omega | (simp; omega) | simp) _)
  ·go_enter Tryz.func24, Tryz.ntmps24
   go_wp2_with fail
   refine bodyPost_ret (v := tV (unc (.fin)) none 0) (by simp [results, Tryz.results24, go_sem, tV, unc, tz, Tr.kind, Tr.set, Tr.parts, Tr.mn, Tr.mx, Tr.num, ow_zero]) rfl ⟨none, 0, rfl, TrRw.up (TrRw.nil _ _ _ _ (Nat.zero_le _)), ?_⟩
   repeat (first | (with_reducible exact Below.refl _ _) | refine Below.setCell ?_ (by first | omega | (simp; omega) | simp) _ | refine Below.alloc ?_ (by first | omega | (simp; omega) | simp) _)
end Go.Proofs.YtkejeiopfblkgaaGreatDoor
namespace Go.Proofs.YtkejeiopfblkgaaGreatDoor
open Go Go.RowKit
abbrev R9 (w' : World) (p : Nat) (t : Tr) (a : Option Addr) (ca : Nat) : Prop :=
 w'.cell? ⟨p, 0, none⟩ = some (.int .i64 t.kind) ∧ w'.cell? ⟨p, 1, none⟩ = some (.int .u64 (ow t.set 0)) ∧ w'.cell? ⟨p, 2, none⟩ = some (.int .u64 (ow t.set 1)) ∧ w'.cell? ⟨p, 3, none⟩ = some (.int .u64 (ow t.set 2)) ∧ w'.cell? ⟨p, 4, none⟩ = some (.int .u64 (ow t.set 3)) ∧
  w'.cell? ⟨p, 5, none⟩ = some (.slice a t.parts.length ca) ∧ w'.cell? ⟨p, 6, none⟩ = some (.int .i64 t.mn) ∧ w'.cell? ⟨p, 7, none⟩ = some (.int .i64 t.mx) ∧ w'.cell? ⟨p, 8, none⟩ = some (.int .i64 t.num)
structure HoldI (w4 : World) (p : Nat) (t : Tr) (a : Option Addr) (ca : Nat) (w' : World) : Prop where
 below : Below w4.heap.size w4 w'
 bt : Blk w' p (tC t a ca) 36
abbrev ReadI (w4 : World) (p : Nat) (t : Tr) (a : Option Addr) (ca : Nat) (w' : World) : Prop := R9 w' p t a ca ∧ HoldI w4 p t a ca w'
theorem HoldI.all {w4 : World} {p : Nat} {t : Tr} {a : Option Addr} {ca : Nat} {w' : World} (h : HoldI w4 p t a ca w') : ReadI w4 p t a ca w' :=
 ⟨⟨(h.bt.cell 0).trans rfl, (h.bt.cell 1).trans rfl, (h.bt.cell 2).trans rfl, (h.bt.cell 3).trans rfl, (h.bt.cell 4).trans rfl, (h.bt.cell 5).trans rfl, (h.bt.cell 6).trans rfl, (h.bt.cell 7).trans rfl, (h.bt.cell 8).trans rfl⟩, h⟩
theorem readI_drew {w4 : World} {p : Nat} {t : Tr} {a : Option Addr} {ca : Nat} {w' : World} (h : ReadI w4 p t a ca w') : ReadI w4 p t a ca w'.drew := HoldI.all ⟨h.2.below.drew, h.2.bt⟩
theorem readI_step {w4 : World} {p : Nat} {t : Tr} {a : Option Addr} {ca : Nat} {W W' : World} (hb : Below W.heap.size W W') (h : ReadI w4 p t a ca W) : ReadI w4 p t a ca W' :=
 HoldI.all ⟨h.2.below.trans (hb.mono h.2.below.size), h.2.bt.below hb h.2.bt.lt⟩
set_option linter.unusedSimpArgs false in
set_option maxRecDepth 100000 in
set_option maxHeartbeats 4000000 in
theorem lis_any {F G : Nat → Prop} (d : Nd) (v : Value) (t : Tr) (a : Option Addr) (cap : Nat) (w : World) (h : NdX F w d v) (ht : TrX G w t a cap) (hkn : tknown t = true) (hs : nsize d ≤ 4000000) :
  Calls Tryz.prog 12 #[v, tV t a cap] w fun e w' => e = .returned (.bool (nsame d (canon t))) ∧ Below w.heap.size w w' := by
 have hT := Blk.new w (tC t a cap) 36 w.heap.size rfl
 have hB := (Below.refl w.heap.size w).alloc (Nat.le_refl _) (.cells (tC t a cap) 36)
 have hR := fun (w' : World) (hb : Below (w.alloc (.cells (tC t a cap) 36)).heap.size (w.alloc (.cells (tC t a cap) 36)) w') => lref_any 4000000 (Nat.le_refl _) d v w' hs ((h.below hB).below hb)
 have hS : ∀ (w' : World) (a' : Option Addr) (cap' : Nat), Below (w.alloc (.cells (tC t a cap) 36)).heap.size (w.alloc (.cells (tC t a cap) 36)) w' → (∃ w0 : World, TrX (fun b => w0.heap.size ≤ b) w' (unc d) a' cap') →
   Calls Tryz.prog 23 #[tV (unc d) a' cap', tV t a cap] w' fun e w2 => e = .returned (.bool (nsame d (canon t))) ∧ Below w'.heap.size w' w2 := by
  intro w' a' cap' hb hx
  obtain ⟨w0, hx⟩ := hx
  obtain ⟨N1, g1⟩ := hx.trd
  obtain ⟨N2, g2⟩ := ((ht.below hB).below hb).trd
  have r1 : TrD (N1 + N2) w' (unc d) a' cap' := by obtain ⟨n, p1, p2⟩ := g1; exact ⟨n, p1, by omega⟩
  have r2 : TrD (N1 + N2) w' t a cap := by obtain ⟨n, p1, p2⟩ := g2; exact ⟨n, p1, by omega⟩
  have h2 := rsame_any (N1 + N2) (unc d) a' cap' t a cap w' r1 r2 (known_unc d) hkn
  rw [canon_unc] at h2
  exact h2
 have hsh := h.elim fun _ h => nd_shape h
 have hall := HoldI.all ⟨Below.refl (w.alloc (.cells (tC t a cap) 36)).heap.size (w.alloc (.cells (tC t a cap) 36)), hT⟩
 have HB := Lib.hid hB
 clear h ht hkn hs hT hB
 generalize nsame d (canon t) = R at hS ⊢
 unfold RefR at hR
 generalize unc d = D at hR hS
 unfold tV at hR hS ⊢
 rcases hsh with ⟨T1, q1, rfl⟩ | rfl
 all_goals
  go_enter Tryz.func12, Tryz.ntmps12
  go_upto_region 1 with fail
  go_region_held3 (fun w' => ReadI (w.alloc (.cells (tC t a cap) 36)) w.heap.size t a cap w')
   (first | (with_reducible exact hall) | (with_reducible exact readI_drew hall) | (with_reducible exact readI_step hbX (by with_reducible assumption)) | (with_reducible exact readI_drew (by with_reducible assumption)))
   (first
    | (go_at_call 24; refine (hR _ (HoldI.below (And.right (by with_reducible assumption)))).mono ?_; rintro e w2 ⟨a', cap', rfl, hxx, hbX⟩)
    | (go_at_call 23; refine (hS _ _ _ (HoldI.below (And.right (by with_reducible assumption))) ⟨_, hxx⟩).mono ?_; rintro e w3 ⟨rfl, hbX⟩))
  all_goals go_wp2_with fail
  all_goals go_ret
  all_goals clear hall
  all_goals go_split_ands
  all_goals exact ⟨rfl, HB.out.trans ((HoldI.below (by with_reducible assumption)).mono HB.out.size)⟩
end Go.Proofs.YtkejeiopfblkgaaGreatDoor
