/- A row of spans in memory, read cell by cell. -/
import Derived.Test.YtehikndlcepkgaaDoorSpWalk
namespace Go.Proofs.YtehikndlcepkgaaDoor
open Go.RowKit

/-- A row of spans in memory: its cells. -/
structure RowS (g : Nat) (l : List (Nat × Nat)) (w : World) : Prop where
  lt : 0 < l.length → g < w.heap.size
  c1 : ∀ i, ∀ h : i < l.length, w.cell? ⟨g, i * 2, none⟩ = some (.int .u8 ((l[i]).1 : Int))
  c2 : ∀ i, ∀ h : i < l.length, w.cell? ⟨g, i * 2 + 1, none⟩ = some (.int .u8 ((l[i]).2 : Int))
theorem RowS.below {g : Nat} {l : List (Nat × Nat)} {w w' : World} (h : RowS g l w) (hb : Below w.heap.size w w') : RowS g l w' :=
  ⟨fun h0 => Nat.lt_of_lt_of_le (h.lt h0) hb.size, fun i hi => (hb.cell (p := ⟨g, i * 2, none⟩) (h.lt (by omega))).trans (h.c1 i hi), fun i hi => (hb.cell (p := ⟨g, i * 2 + 1, none⟩) (h.lt (by omega))).trans (h.c2 i hi)⟩
theorem own_form {w : World} {B : Nat} {e : TypeId} {v : Value} {l : List (Nat × Nat)} (h : w.ownsRow B e 2 v l.length (flat l)) :
    ∃ a c g, v = .slice a l.length c ∧ (0 < l.length → a = some ⟨g, 0, none⟩) ∧ l.length ≤ c ∧ RowS g l w := by
  obtain ⟨_, h2⟩ := h
  rcases h2 with ⟨rfl, hz⟩ | ⟨g, cap, cur, rfl, hg, hh, hn, hcap, hcs, htk⟩
  · exact ⟨none, 0, 0, by rw [hz], fun h => by omega, by omega, ⟨fun h => by omega, fun i hi => by omega, fun i hi => by omega⟩⟩
  · refine ⟨_, cap, g, rfl, fun _ => rfl, hn, ⟨fun _ => (Array.getElem?_eq_some_iff.1 hh).1, fun i hi => ?_, fun i hi => ?_⟩⟩
    · have h1 : w.cell? ⟨g, i * 2, none⟩ = cur[i * 2]? := by simp [World.cell?, hh]
      have h2 := (flat_at l i hi).1
      rw [← htk, List.getElem?_take_of_lt (by omega)] at h2
      rw [h1]
      simpa using h2
    · have h1 : w.cell? ⟨g, i * 2 + 1, none⟩ = cur[i * 2 + 1]? := by simp [World.cell?, hh]
      have h2 := (flat_at l i hi).2
      rw [← htk, List.getElem?_take_of_lt (by omega)] at h2
      rw [h1]
      simpa using h2
end Go.Proofs.YtehikndlcepkgaaDoor
