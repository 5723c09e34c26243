/- A row of nodes in the making: what append leaves. -/
import Derived.Test.YtaekjcbgnlldoaaNdAt
import Derived.Maps.AppendAt
namespace Go.Proofs.Ytaekjcbgnlldoaa
open Go.RowKit

theorem nd_own_below {w w' : World} {base : Nat} {e : TypeId} {size : Nat} {v : Value} {n : Nat} {xs : List Value} (h : w.ownsRow base e size v n xs) (hb : Below w.heap.size w w') : w'.ownsRow base e size v n xs := by
  obtain ⟨h1, h2⟩ := h
  refine ⟨h1, ?_⟩
  rcases h2 with h2 | ⟨g, cap, cur, a, b, c, d⟩
  · exact .inl h2
  · exact .inr ⟨g, cap, cur, a, b, by rw [hb.block g (Array.getElem?_eq_some_iff.1 c).1]; exact c, d⟩
/-- A row that the call makes itself, of nodes that lie beside it. -/
def NdOwn (B n : Nat) (w : World) (l : List Nd) (v : Value) (us : List Value) : Prop :=
  us.length = l.length ∧ w.ownsRow B 31 1 v us.length us ∧ ∀ i (h : i < l.length) (h2 : i < us.length), NdAt (fun b => B ≤ b ∧ v.ownBlock ≠ some b) n w l[i] us[i]
theorem NdOwn.nil (B n : Nat) (w : World) : NdOwn B n w [] (.slice none 0 0) [] :=
  ⟨rfl, World.ownsRow_nil _ _ _ _, fun i h => absurd h (by simp)⟩
theorem NdOwn.below {B n : Nat} {w w' : World} {l : List Nd} {v : Value} {us : List Value} (h : NdOwn B n w l v us) (hb : Below w.heap.size w w') : NdOwn B n w' l v us :=
  ⟨h.1, nd_own_below h.2.1 hb, fun i h1 h2 => NdAt.below hb _ _ _ (h.2.2 i h1 h2)⟩
theorem NdOwn.lt {B n : Nat} {w : World} {l : List Nd} {v : Value} {us : List Value} (h : NdOwn B n w l v us) (g : Nat) (hg : v.ownBlock = some g) : g < w.heap.size := by
  obtain ⟨_, ⟨_, h2⟩, _⟩ := h
  rcases h2 with ⟨rfl, _⟩ | ⟨g', cap, cur, rfl, _, hh, _⟩
  · simp [Value.ownBlock] at hg
  · simp [Value.ownBlock] at hg
    subst hg
    exact (Array.getElem?_eq_some_iff.1 hh).1
theorem own_of {w : World} {base : Nat} {e : TypeId} {size : Nat} {v : Value} {n : Nat} {xs : List Value} (h : w.ownsRow base e size v n xs) : ∀ k, v.ownBlock = some k → base ≤ k := by
  obtain ⟨_, h2⟩ := h
  intro k hk
  rcases h2 with ⟨rfl, _⟩ | ⟨g, cap, cur, rfl, hg, _⟩
  · simp [Value.ownBlock] at hk
  · simp [Value.ownBlock] at hk; omega
/-- One more. -/
theorem NdOwn.push {B n : Nat} {w w' : World} {l : List Nd} {v v' : Value} {us : List Value} {d : Nd} {u : Value} (h : NdOwn B n w l v us) (hu : NdAt (fun b => B ≤ b ∧ v.ownBlock ≠ some b) n w d u)
    (hown : w'.ownsRow B 31 1 v' (us.length + 1) (us ++ [u])) (hg : w.grownBy w' v.ownBlock) (hb : v'.ownBlock = v.ownBlock ∨ v'.ownBlock = some w.heap.size) : NdOwn B n w' (l ++ [d]) v' (us ++ [u]) := by
  have hk : ∀ d u, NdAt (fun b => B ≤ b ∧ v.ownBlock ≠ some b) n w d u → NdAt (fun b => B ≤ b ∧ v'.ownBlock ≠ some b) n w' d u := fun d u hd =>
    NdAt.keep hg.size (fun b hf hlt => ⟨⟨hf.1, by
      rcases hb with e | e
      · rw [e]; exact hf.2
      · rw [e]; intro he; injection he with he; omega⟩, fun o => World.cell?_of_block (w := w) (a := ⟨b, o, none⟩) (hg.block b hlt (fun e => hf.2 e.symm))⟩) n d u hd
  refine ⟨by simp [h.1], by rw [List.length_append]; exact hown, fun i h1 h2 => ?_⟩
  by_cases hi : i < l.length
  · rw [List.getElem_append_left hi, List.getElem_append_left (by rw [h.1]; exact hi)]
    exact hk _ _ (h.2.2 i hi (by rw [h.1]; exact hi))
  · have hie : i = l.length := by simp at h1; omega
    subst hie
    rw [List.getElem_append_right (Nat.le_refl _), List.getElem_append_right (by rw [h.1]; exact Nat.le_refl _)]
    simp [h.1]
    exact hk _ _ hu
/-- The row as a node's parts. -/
theorem NdOwn.row {B n : Nat} {w : World} {l : List Nd} {v : Value} {us : List Value} (h : NdOwn B n w l v us) : ∃ a cap, v = .slice a l.length cap ∧ NdRow (fun b => B ≤ b) n w l a cap := by
  obtain ⟨h1, ⟨h2a, h2⟩, h3⟩ := h
  rcases h2 with ⟨rfl, hz⟩ | ⟨g, cap, cur, rfl, hg, hh, hn, hcap, hcs, htk⟩
  · have h0 : l.length = 0 := by omega
    exact ⟨none, 0, by rw [h0], by omega, by omega, fun h => by omega⟩
  · refine ⟨some ⟨g, 0, none⟩, cap, by rw [h1], by omega, hcap, fun h0 => ⟨g, 0, rfl, hg, (Array.getElem?_eq_some_iff.1 hh).1, fun i hi => ?_⟩⟩
    have hiu : i < us.length := by omega
    refine ⟨us[i], ?_, NdAt.wider (fun b hb _ => hb.1) _ _ _ (h3 i hi hiu)⟩
    have h4 : w.cell? ⟨g, 0 + i, none⟩ = cur[i]? := by simp [World.cell?, hh]
    have h5 : (cur.toList.take (us.length * 1))[i]? = us[i]? := by rw [htk]
    rw [List.getElem?_take_of_lt (by omega)] at h5
    rw [h4, ← Array.getElem?_toList, h5, List.getElem?_eq_getElem hiu]
end Go.Proofs.Ytaekjcbgnlldoaa
