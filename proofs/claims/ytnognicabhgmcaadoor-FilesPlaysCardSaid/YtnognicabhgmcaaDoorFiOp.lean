/- Files that come in as an argument. -/
import Derived.Test.YtnognicabhgmcaaDoorFiWe
import Derived.Test.YtnognicabhgmcaaDoorRows
import Derived.WalkKit
import Derived.ProofKit
import Derived.OpenShut
import Derived.ChangeSame
import Derived.DataReads
import Derived.Lib.SmallJoins
import Derived.Deep.DeepHandedRow
namespace Go.Proofs.YtnognicabhgmcaaDoor
open Go.ChangeShapes Go.WideShapes Go.ChangeAt Go.RowKit

theorem fi_cells_at {w : World} {base n : Nat} {a : Addr} {cs : List Value} (h : w.cells? base a n = some cs) (j : Nat) (hj : j < n) : ∃ v, cs[j]? = some v ∧ w.cell? (a.add j) = some v := by
  unfold World.cells? at h
  split at h
  · exact Lib.mapM_at h j j (by simp [hj])
  · cases h
theorem cells_str : Tryd.prog.cellsOf 9 = 1 := by kernel_rfl
theorem cells_strs : Tryd.prog.cellsOf 36 = 1 := by kernel_rfl
theorem cells_F : Tryd.prog.cellsOf 50 = 2 := by kernel_rfl
variable {H : Type} {enc : TypeId × Value → H} {w : World} {base : Nat} {spare : Nat → Bool} {held : Bool} {fuel : Nat}
theorem open_lns {v : Value} {x : DataW H × List MemPlace} (h : DataW.trod enc Tryd.prog w base spare held fuel 36 [v] = some x) : ∃ ls, LnRd w v ls := by
  rcases DataW.trod_slice Tryd.underlying36 h with ⟨e2, _⟩ | ⟨a, len, cap, elems, rest, m, hm, e2, hxs, _, hl, hcm, hel, hread, _, _⟩
  · injection e2 with e2
    subst e2
    exact ⟨[], none, 0, rfl, fun h => absurd h (by simp)⟩
  · injection e2 with e2
    subst e2
    rw [cells_str] at hread
    have hone : ∀ i, i < len → ∃ s : List UInt8, w.cell? (a.add (i * 1)) = some (.string (txt s)) := by
      intro i hi
      have h6 := hread i hi
      rw [List.getElem?_eq_getElem (show i < elems.length by omega)] at h6
      obtain ⟨cs', hc, ht⟩ := Option.bind_eq_some_iff.1 h6
      obtain ⟨s, rfl, _, _⟩ := DataW.trod_string Tryd.underlying9 ht
      obtain ⟨u, hu1, hu2⟩ := fi_cells_at hc 0 (by decide)
      simp at hu1
      subst hu1
      exact ⟨s.data.toList, by rw [txt_of]; simpa [Addr.add] using hu2⟩
    obtain ⟨Q, hQ⟩ := Go.Deep.choose_lt hone
    refine ⟨(List.range len).map Q, some a, cap, by simp, fun h0 => ?_⟩
    have hl0 : 0 < len := by simpa using h0
    have h1 := hQ 0 hl0
    rw [Nat.zero_mul] at h1
    obtain ⟨b, o, spot⟩ := a
    have hspot : spot = none := by simpa [Addr.add] using World.cell?_spot h1
    subst hspot
    refine ⟨b, o, rfl, World.block_lt_of_cell? w _ h1, fun j hj => ?_⟩
    have h2 := hQ j (by simpa using hj)
    rw [Go.WideShapes.add_plain, Nat.mul_one] at h2
    simpa using h2
theorem open_F {cs : List Value} {x : DataW H × List MemPlace} (h : DataW.trod enc Tryd.prog w base spare held fuel 50 cs = some x) : ∃ (f : Fl) (v : Value), cs = [.string (txt f.1), v] ∧ LnRd w v f.2 := by
  obtain ⟨y0, y1, n, _, hl, h0, h1⟩ := trod_struct2 Tryd.underlying50 h
  rw [cells_F] at hl
  match cs, hl with
  | [c0, c1], _ =>
    rw [cells_str] at h0
    rw [cells_strs] at h1
    obtain ⟨s, h2, _, _⟩ := DataW.trod_string Tryd.underlying9 h0
    simp at h2
    subst h2
    obtain ⟨ls, h3⟩ := open_lns (v := c1) (by simpa using h1)
    exact ⟨(s.data.toList, ls), c1, by rw [txt_of], h3⟩
theorem open_files {r : Reach} {b0 : Nat} {v : Value} {d : DataW H} {p : List MemPlace} (hv : Value.okWide Tryd.prog w r b0 22 v) (h : DataW.Trod enc Tryd.prog w base spare held 22 v d p) : ∃ (fs : List Fl) (a : Option Addr) (c : Nat), v = .slice a fs.length c ∧ FsRd w a fs ∧ fs.length ≤ maxLen := by
  have hsl : ∃ a len cap, v = .slice a len cap := by
    simp only [Value.okWide, Tryd.underlying22] at hv
    simp only [Cell.okWide, Tryd.underlying22] at hv
    simp only [Cell.ok, Tryd.underlying22] at hv
    cases v <;> first | exact ⟨_, _, _, rfl⟩ | exact hv.elim
  obtain ⟨a0, len0, cap0, rfl⟩ := hsl
  obtain ⟨fuel, hf⟩ := h
  rcases DataW.trod_slice Tryd.underlying22 hf with ⟨e2, _⟩ | ⟨a, len, cap, elems, rest, m, hm, e2, hxs, _, hl, hcm, hel, hread, _, _⟩
  · simp [Value.cells] at e2
    obtain ⟨rfl, rfl, rfl⟩ := e2
    exact ⟨[], none, 0, rfl, fun h0 => absurd h0 (by simp), by simp⟩
  · simp [Value.cells] at e2
    obtain ⟨rfl, rfl, rfl⟩ := e2
    rw [cells_F] at hread
    have hone : ∀ i, i < len0 → ∃ f : Fl, w.cell? (a.add (i * 2)) = some (.string (txt f.1)) ∧ ∃ v, w.cell? ((a.add (i * 2)).add 1) = some v ∧ LnRd w v f.2 := by
      intro i hi
      have h6 := hread i hi
      rw [List.getElem?_eq_getElem (show i < elems.length by omega)] at h6
      obtain ⟨cs', hc, ht⟩ := Option.bind_eq_some_iff.1 h6
      obtain ⟨f, v, rfl, h7⟩ := open_F ht
      obtain ⟨u0, hu1, hu2⟩ := fi_cells_at hc 0 (by decide)
      obtain ⟨u1, hu3, hu4⟩ := fi_cells_at hc 1 (by decide)
      simp at hu1 hu3
      subst hu1 hu3
      exact ⟨f, by simpa [Addr.add] using hu2, _, hu4, h7⟩
    obtain ⟨Q, hQ⟩ := Go.Deep.choose_lt hone
    refine ⟨(List.range len0).map Q, some a, cap0, by simp, fun h0 => ?_, by simp; omega⟩
    have hl0 : 0 < len0 := by simpa using h0
    have h1 := (hQ 0 hl0).1
    rw [Nat.zero_mul] at h1
    obtain ⟨b, o, spot⟩ := a
    have hspot : spot = none := by simpa [Addr.add] using World.cell?_spot h1
    subst hspot
    refine ⟨b, o, rfl, World.block_lt_of_cell? w _ h1, fun j hj => ?_⟩
    obtain ⟨h2, v, h3, h4⟩ := hQ j (by simpa using hj)
    rw [Go.WideShapes.add_plain] at h2
    rw [Go.WideShapes.add_plain, Go.WideShapes.add_plain] at h3
    have e : ((List.range len0).map Q)[j] = Q j := by simp
    rw [e]
    exact ⟨h2, v, h3, h4⟩
theorem cells_act : Tryd.prog.cellsOf 30 = 3 := by kernel_rfl
theorem open_act {r : Reach} {b0 : Nat} {v : Value} {d : DataW H} {p : List MemPlace} (hv : Value.okWide Tryd.prog w r b0 30 v) (h : DataW.Trod enc Tryd.prog w base spare held 30 v d p) : ∃ (k : Int) (na ta : ByteArray), v = .agg #[.int .u8 k, .string na, .string ta] ∧ d = .agg [.lit (.int .u8 k), .lit (.string na.data.toList), .lit (.string ta.data.toList)] := by
  obtain ⟨c0, c1, c2, y0, y1, y2, m, rfl, rfl, _, hy0, hy1, hy2⟩ := Go.Joins.open_agg3 Tryd.underlying30 (by kernel_rfl) cells_act hv h
  obtain ⟨k, e0, rfl, _⟩ := DataW.trod_int Tryd.underlying5 hy0
  obtain ⟨na, e1, rfl, _⟩ := DataW.trod_string Tryd.underlying9 hy1
  obtain ⟨ta, e2, rfl, _⟩ := DataW.trod_string Tryd.underlying9 hy2
  simp at e0 e1 e2
  subst e0 e1 e2
  exact ⟨k, na, ta, rfl, rfl⟩
end Go.Proofs.YtnognicabhgmcaaDoor
