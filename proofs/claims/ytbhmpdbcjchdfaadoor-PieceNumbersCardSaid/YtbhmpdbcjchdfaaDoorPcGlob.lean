/- The variables of layer 11, as a row's list lays them: what the walks ask of a world; two numbers that come in as an array. -/
import Derived.Test.YtbhmpdbcjchdfaaDoorPcB
import Derived.Test.YtbhmpdbcjchdfaaDoorOctOpen
import Derived.Test.YtbhmpdbcjchdfaaDoorCards
import Derived.Test.YtbhmpdbcjchdfaaDoorTie
import Derived.ShutString
import Derived.OpenShut
import Derived.Deep.DeepHandedRow
import Derived.Lib.LaidTab
import Derived.Stop.LaidErr
import Derived.Shelf.Vars
namespace Go.Proofs.YtbhmpdbcjchdfaaDoor
open Go.ChangeShapes Go.WideShapes Go.ChangeAt Go.RowKit

theorem cellsU8 : Tryd.prog.cellsOf 5 = 1 := by kernel_rfl
theorem gAhd : Tryd.prog.globalNamed "placket/piece.ahead" = some 0 := by kernel_rfl
theorem gAhdType : (Tryd.prog.globals[0]?).map (·.type) = some 76 := by kernel_rfl
theorem cellsAhd : Tryd.prog.cellsOf 76 = 2 := by kernel_rfl
theorem gp_of {W : World} (h : laidMetH Tryd.prog [("unicode/utf8.acceptRanges", Rows.laid_unicode_utf8_acceptRanges), ("placket/piece.ahead", Rows.laid_placket_piece_ahead), ("unicode/utf8.first", Rows.laid_unicode_utf8_first)] W) : GP W := by
  have h0 : laidMet Tryd.prog [("unicode/utf8.acceptRanges", Rows.laid_unicode_utf8_acceptRanges), ("placket/piece.ahead", Rows.laid_placket_piece_ahead), ("unicode/utf8.first", Rows.laid_unicode_utf8_first)] W := h
  have hT : Lib.TabIs Tryd.prog W "placket/piece.ahead" .u8 [94, 93] :=
    Lib.tabIs_of_head gAhd gAhdType Tryd.underlying76 Tryd.underlying5 cellsU8 cellsAhd (laidMet.tail h0)
  have c0 := hT.cell gAhd 0 (by decide)
  refine ⟨c0, hT.cell gAhd 1 (by decide), ?_⟩
  cases hh : W.heap[0]? with
  | none => simp [World.cell?, hh] at c0
  | some o => exact (Array.getElem?_eq_some_iff.1 hh).1
def layCells (cs : Array Value) : Obj → Obj
  | .cells _ t frozen => .cells cs t frozen
  | o => o
/-- A world for the witness: the settled one, the variables holding what the list says. -/
noncomputable def laidWorld (os : Os) : World :=
  { World.holding Tryd.prog os ⟨#[], #[], []⟩ with heap := (((World.holding Tryd.prog os ⟨#[], #[], []⟩).heap.modify 0 (layCells #[.int .u8 94, .int .u8 93])).modify 3 (layCells (([128, 191, 160, 191, 128, 159, 144, 191, 128, 143, 0, 0, 0, 0, 0, 0, 0, 0, 0, 0, 0, 0, 0, 0, 0, 0, 0, 0, 0, 0, 0, 0] : List Nat).map fun n => Value.int .u8 (Int.ofNat n)).toArray)).modify 2 (layCells (Go.Pinned.utf8FirstZ.map fun n => Value.int .u8 (Int.ofNat n)).toArray) }

theorem array2_list (cs : Array Value) (h : cs.size = 2) : ∃ a b, cs = #[a, b] := by
  match cs, h with
  | ⟨[a, b]⟩, _ => exact ⟨a, b, rfl⟩
theorem open_two {H : Type} {enc : TypeId × Value → H} {P : Program} {w : World} {r : Reach} {b0 base : Nat} {spare : Nat → Bool} {held : Bool} {t e : TypeId} {v : Value} {d : DataW H} {p : List MemPlace}
    (ht : P.underlying t = some (.array 2 e)) (he : P.underlying e = some (.int .i64)) (hct : P.cellsOf t = 2) (hce : P.cellsOf e = 1)
    (hv : Value.okWide P w r b0 t v) (h : DataW.Trod enc P w base spare held t v d p) : ∃ a b : Int, v = .agg #[.int .i64 a, .int .i64 b] := by
  simp only [Value.okWide, ht] at hv
  obtain ⟨cs, rfl, hsz, _⟩ := hv
  rw [hct] at hsz
  obtain ⟨a, b, rfl⟩ := array2_list cs hsz
  obtain ⟨fuel, hf⟩ := h
  obtain ⟨xs, m, _, _, _, hxl, hx⟩ := DataW.trod_array ht hf
  rw [hce] at hx
  have hat : ∀ i, i < 2 → ∃ n, (([a, b] : List Value).drop (i * 1)).take 1 = [.int .i64 n] ∧ (Lit.int .i64 n).wf = true := by
    intro i hi
    have h1 := hx i hi
    rw [List.getElem?_eq_getElem (by omega)] at h1
    obtain ⟨n, e1, _, e2⟩ := DataW.trod_int he h1
    exact ⟨n, e1, e2⟩
  obtain ⟨n0, e0, _⟩ := hat 0 (by decide)
  obtain ⟨n1, e1, _⟩ := hat 1 (by decide)
  simp at e0 e1
  subst e0 e1
  exact ⟨n0, n1, rfl⟩
end Go.Proofs.YtbhmpdbcjchdfaaDoor
