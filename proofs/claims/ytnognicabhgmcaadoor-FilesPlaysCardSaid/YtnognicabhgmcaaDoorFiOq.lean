/- What is done, that comes in as an argument. -/
import Derived.Test.YtnognicabhgmcaaDoorFiOp
import Derived.Test.YtnognicabhgmcaaDoorFiPh
namespace Go.Proofs.YtnognicabhgmcaaDoor
open Go.ChangeShapes Go.WideShapes Go.ChangeAt Go.RowKit

theorem three_of {α : Type} {l : List α} (h : l.length = 3) : ∃ x y z, l = [x, y, z] := by
  match l, h with
  | [x, y, z], _ => exact ⟨x, y, z, rfl⟩
theorem open_acts {H : Type} {enc : TypeId × Value → H} {w : World} {base : Nat} {spare : Nat → Bool} {held : Bool} {r : Reach} {b0 : Nat} {v : Value} {d : DataW H} {p : List MemPlace} (hv : Value.okWide Tryd.prog w r b0 23 v) (h : DataW.Trod enc Tryd.prog w base spare held 23 v d p) : ∃ (l : List (Int × ByteArray × ByteArray)) (a : Option Addr) (c : Nat), v = .slice a l.length c ∧ ActRd w a l ∧ ∀ x ∈ l, 0 ≤ x.1 ∧ x.1 < 256 := by
  have hsl : ∃ a len cap, v = .slice a len cap := by
    simp only [Value.okWide, Tryd.underlying23] at hv
    simp only [Cell.okWide, Tryd.underlying23] at hv
    simp only [Cell.ok, Tryd.underlying23] at hv
    cases v <;> first | exact ⟨_, _, _, rfl⟩ | exact hv.elim
  obtain ⟨a0, len0, cap0, rfl⟩ := hsl
  obtain ⟨fuel, hf⟩ := h
  rcases DataW.trod_slice Tryd.underlying23 hf with ⟨e2, _⟩ | ⟨a, len, cap, elems, rest, m, hm, e2, hxs, _, hl, hcm, hel, hread, _, _⟩
  · simp [Value.cells] at e2
    obtain ⟨rfl, rfl, rfl⟩ := e2
    exact ⟨[], none, 0, rfl, fun h0 => absurd h0 (by simp), fun x hx => by cases hx⟩
  · simp [Value.cells] at e2
    obtain ⟨rfl, rfl, rfl⟩ := e2
    rw [cells_act] at hread
    have hone : ∀ i, i < len0 → ∃ f : Int × ByteArray × ByteArray, (0 ≤ f.1 ∧ f.1 < 256) ∧ w.cell? (a.add (i * 3)) = some (.int .u8 f.1) ∧ w.cell? ((a.add (i * 3)).add 1) = some (.string f.2.1) ∧ w.cell? ((a.add (i * 3)).add 2) = some (.string f.2.2) := by
      intro i hi
      have h6 := hread i hi
      rw [List.getElem?_eq_getElem (show i < elems.length by omega)] at h6
      obtain ⟨cs', hc, ht⟩ := Option.bind_eq_some_iff.1 h6
      obtain ⟨y0, y1, y2, n, _, hl3, h0, h1, h2⟩ := Go.Deep.trod_struct3 Tryd.underlying30 ht
      rw [cells_act] at hl3
      obtain ⟨x0, x1, x2, rfl⟩ := three_of hl3
      rw [show Tryd.prog.cellsOf 5 = 1 by kernel_rfl] at h0
      rw [cells_str] at h1 h2
      obtain ⟨k, e0, _, hk⟩ := DataW.trod_int Tryd.underlying5 h0
      obtain ⟨na, e1, _, _⟩ := DataW.trod_string Tryd.underlying9 h1
      obtain ⟨ta, e2, _, _⟩ := DataW.trod_string Tryd.underlying9 h2
      simp at e0 e1 e2
      subst e0 e1 e2
      have hk2 := bounds_u8 hk
      obtain ⟨u0, hu1, hu2⟩ := fi_cells_at hc 0 (by decide)
      obtain ⟨u1, hu3, hu4⟩ := fi_cells_at hc 1 (by decide)
      obtain ⟨u2, hu5, hu6⟩ := fi_cells_at hc 2 (by decide)
      simp at hu1 hu3 hu5
      subst hu1 hu3 hu5
      exact ⟨(k, na, ta), ⟨hk2.1, by omega⟩, by simpa [Addr.add] using hu2, hu4, hu6⟩
    obtain ⟨Q, hQ⟩ := Go.Deep.choose_lt hone
    refine ⟨(List.range len0).map Q, some a, cap0, by simp, fun h0 => ?_, fun x hx => ?_⟩
    · have hl0 : 0 < len0 := by simpa using h0
      have h1 := (hQ 0 hl0).2.1
      rw [Nat.zero_mul] at h1
      obtain ⟨b, o, spot⟩ := a
      have hspot : spot = none := by simpa [Addr.add] using World.cell?_spot h1
      subst hspot
      refine ⟨b, o, rfl, World.block_lt_of_cell? w _ h1, fun j hj => ?_⟩
      obtain ⟨_, h2, h3, h4⟩ := hQ j (by simpa using hj)
      rw [Go.WideShapes.add_plain] at h2
      rw [Go.WideShapes.add_plain, Go.WideShapes.add_plain] at h3 h4
      have e : ((List.range len0).map Q)[j] = Q j := by simp
      rw [e]
      exact ⟨h2, h3, h4⟩
    · obtain ⟨i, hi, rfl⟩ := List.mem_map.1 hx
      exact (hQ i (List.mem_range.1 hi)).1
end Go.Proofs.YtnognicabhgmcaaDoor
