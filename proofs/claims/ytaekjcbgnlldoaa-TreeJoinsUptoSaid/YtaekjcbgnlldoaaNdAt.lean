/- The program's nodes in memory: interface values, their parts in rows; the blocks that they go through. -/
import Derived.Test.YtaekjcbgnlldoaaNdMath
import Derived.Test.YtaekjcbgnlldoaaRows
import Derived.Test.YtaekjcbgnlldoaaBlk
import Derived.WalkKit
namespace Go.Proofs.Ytaekjcbgnlldoaa
open Go.RowKit

/-- A node as an interface value; F: the blocks that it may go through. -/
def NdAt (F : Nat → Prop) : Nat → World → Nd → Value → Prop
  | 0, _, _, _ => False
  | n + 1, w, d, v => match d with
    | .empty => v = .iface 39 (.agg #[]) ∨ v = .nilIface
    | .one s => v = .iface 49 (.agg #[.int .u64 (ow s 0), .int .u64 (ow s 1), .int .u64 (ow s 2), .int .u64 (ow s 3)])
    | .cat l => ∃ a cap, v = .iface 51 (.agg #[.slice a l.length cap]) ∧ l.length ≤ cap ∧ cap ≤ maxLen ∧
        (0 < l.length → ∃ b o, a = some ⟨b, o, none⟩ ∧ F b ∧ b < w.heap.size ∧ ∀ i (h : i < l.length), ∃ u, w.cell? ⟨b, o + i, none⟩ = some u ∧ NdAt F n w l[i] u)
    | .alt l => ∃ a cap, v = .iface 55 (.agg #[.slice a l.length cap]) ∧ l.length ≤ cap ∧ cap ≤ maxLen ∧
        (0 < l.length → ∃ b o, a = some ⟨b, o, none⟩ ∧ F b ∧ b < w.heap.size ∧ ∀ i (h : i < l.length), ∃ u, w.cell? ⟨b, o + i, none⟩ = some u ∧ NdAt F n w l[i] u)
    | .rep d mn mx => ∃ u, v = .iface 57 (.agg #[u, .int .i64 mn, .int .i64 mx]) ∧ NdAt F n w d u
    | .group num d => ∃ u, v = .iface 59 (.agg #[.int .i64 num, u]) ∧ NdAt F n w d u
    | .back num => v = .iface 61 (.agg #[.int .i64 num])
    | .start => v = .iface 53 (.agg #[])
    | .fin => v = .iface 62 (.agg #[])
/-- A row of nodes. -/
def NdRow (F : Nat → Prop) (n : Nat) (w : World) (l : List Nd) (a : Option Addr) (cap : Nat) : Prop :=
  l.length ≤ cap ∧ cap ≤ maxLen ∧ (0 < l.length → ∃ b o, a = some ⟨b, o, none⟩ ∧ F b ∧ b < w.heap.size ∧ ∀ i (h : i < l.length), ∃ u, w.cell? ⟨b, o + i, none⟩ = some u ∧ NdAt F n w l[i] u)
/-- In a world that holds the same in the blocks that it goes through. -/
theorem NdAt.keep {F G : Nat → Prop} {w w' : World} (hs : w.heap.size ≤ w'.heap.size) (hF : ∀ b, F b → b < w.heap.size → G b ∧ ∀ o, w'.cell? ⟨b, o, none⟩ = w.cell? ⟨b, o, none⟩) :
    ∀ (n : Nat) (d : Nd) (v : Value), NdAt F n w d v → NdAt G n w' d v := by
  intro n
  induction n with
  | zero => intro d v h; exact h
  | succ n ih =>
    have hrow : ∀ (l : List Nd) (a : Option Addr), (0 < l.length → ∃ b o, a = some ⟨b, o, none⟩ ∧ F b ∧ b < w.heap.size ∧ ∀ i (h : i < l.length), ∃ u, w.cell? ⟨b, o + i, none⟩ = some u ∧ NdAt F n w l[i] u) →
        (0 < l.length → ∃ b o, a = some ⟨b, o, none⟩ ∧ G b ∧ b < w'.heap.size ∧ ∀ i (h : i < l.length), ∃ u, w'.cell? ⟨b, o + i, none⟩ = some u ∧ NdAt G n w' l[i] u) := by
      intro l a h h0
      obtain ⟨b, o, rfl, hf, hb, hx⟩ := h h0
      refine ⟨b, o, rfl, (hF b hf hb).1, Nat.lt_of_lt_of_le hb hs, fun i hi => ?_⟩
      obtain ⟨u, hu, hr⟩ := hx i hi
      exact ⟨u, ((hF b hf hb).2 _).trans hu, ih _ _ hr⟩
    intro d v h
    cases d with
    | empty => exact h
    | one s => exact h
    | cat l =>
      obtain ⟨a, cap, h1, h2, h3, h4⟩ := h
      exact ⟨a, cap, h1, h2, h3, hrow l a h4⟩
    | alt l =>
      obtain ⟨a, cap, h1, h2, h3, h4⟩ := h
      exact ⟨a, cap, h1, h2, h3, hrow l a h4⟩
    | rep d mn mx =>
      obtain ⟨u, h1, h2⟩ := h
      exact ⟨u, h1, ih _ _ h2⟩
    | group num d =>
      obtain ⟨u, h1, h2⟩ := h
      exact ⟨u, h1, ih _ _ h2⟩
    | back num => exact h
    | start => exact h
    | fin => exact h
theorem NdAt.below {F : Nat → Prop} {w w' : World} (hb : Below w.heap.size w w') (n : Nat) (d : Nd) (v : Value) (h : NdAt F n w d v) : NdAt F n w' d v :=
  h.keep hb.size (fun b hf hlt => ⟨hf, fun o => hb.cell (p := ⟨b, o, none⟩) hlt⟩)
theorem NdAt.wider {F G : Nat → Prop} {w : World} (hFG : ∀ b, F b → b < w.heap.size → G b) (n : Nat) (d : Nd) (v : Value) (h : NdAt F n w d v) : NdAt G n w d v :=
  h.keep (Nat.le_refl _) (fun b hf hlt => ⟨hFG b hf hlt, fun _ => rfl⟩)
/-- More depth than is needed. -/
theorem NdAt.more {F : Nat → Prop} {w : World} : ∀ (n m : Nat) (d : Nd) (v : Value), n ≤ m → NdAt F n w d v → NdAt F m w d v := by
  intro n
  induction n with
  | zero => intro m d v _ h; exact h.elim
  | succ n ih =>
    intro m d v hm h
    obtain ⟨m, rfl⟩ : ∃ m', m = m' + 1 := ⟨m - 1, by omega⟩
    have hrow : ∀ (l : List Nd) (a : Option Addr), (0 < l.length → ∃ b o, a = some ⟨b, o, none⟩ ∧ F b ∧ b < w.heap.size ∧ ∀ i (h : i < l.length), ∃ u, w.cell? ⟨b, o + i, none⟩ = some u ∧ NdAt F n w l[i] u) →
        (0 < l.length → ∃ b o, a = some ⟨b, o, none⟩ ∧ F b ∧ b < w.heap.size ∧ ∀ i (h : i < l.length), ∃ u, w.cell? ⟨b, o + i, none⟩ = some u ∧ NdAt F m w l[i] u) := by
      intro l a h h0
      obtain ⟨b, o, rfl, hf, hb, hx⟩ := h h0
      refine ⟨b, o, rfl, hf, hb, fun i hi => ?_⟩
      obtain ⟨u, hu, hr⟩ := hx i hi
      exact ⟨u, hu, ih _ _ _ (by omega) hr⟩
    cases d with
    | empty => exact h
    | one s => exact h
    | cat l =>
      obtain ⟨a, cap, h1, h2, h3, h4⟩ := h
      exact ⟨a, cap, h1, h2, h3, hrow l a h4⟩
    | alt l =>
      obtain ⟨a, cap, h1, h2, h3, h4⟩ := h
      exact ⟨a, cap, h1, h2, h3, hrow l a h4⟩
    | rep d mn mx =>
      obtain ⟨u, h1, h2⟩ := h
      exact ⟨u, h1, ih _ _ _ (by omega) h2⟩
    | group num d =>
      obtain ⟨u, h1, h2⟩ := h
      exact ⟨u, h1, ih _ _ _ (by omega) h2⟩
    | back num => exact h
    | start => exact h
    | fin => exact h
theorem NdRow.wider {F G : Nat → Prop} {w : World} (hFG : ∀ b, F b → b < w.heap.size → G b) {n : Nat} {l : List Nd} {a : Option Addr} {cap : Nat} (h : NdRow F n w l a cap) : NdRow G n w l a cap := by
  refine ⟨h.1, h.2.1, fun h0 => ?_⟩
  obtain ⟨b, o, rfl, hf, hb, hx⟩ := h.2.2 h0
  refine ⟨b, o, rfl, hFG b hf hb, hb, fun i hi => ?_⟩
  obtain ⟨u, hu, hr⟩ := hx i hi
  exact ⟨u, hu, NdAt.wider hFG _ _ _ hr⟩
/-- A node is an interface value, or none. -/
theorem nd_shape {F : Nat → Prop} {n : Nat} {w : World} {d : Nd} {v : Value} (h : NdAt F n w d v) : (∃ T p, v = .iface T p) ∨ v = .nilIface := by
  cases n with
  | zero => exact h.elim
  | succ n =>
    cases d with
    | empty => exact h.elim (fun h => .inl ⟨_, _, h⟩) .inr
    | one s => exact .inl ⟨_, _, h⟩
    | cat l => obtain ⟨a, cap, h1, _⟩ := h; exact .inl ⟨_, _, h1⟩
    | alt l => obtain ⟨a, cap, h1, _⟩ := h; exact .inl ⟨_, _, h1⟩
    | rep d mn mx => obtain ⟨u, h1, _⟩ := h; exact .inl ⟨_, _, h1⟩
    | group num d => obtain ⟨u, h1, _⟩ := h; exact .inl ⟨_, _, h1⟩
    | back num => exact .inl ⟨_, _, h⟩
    | start => exact .inl ⟨_, _, h⟩
    | fin => exact .inl ⟨_, _, h⟩
end Go.Proofs.Ytaekjcbgnlldoaa
