/- The package's variables, as a row's list lays them: what the walks ask of a world. -/
import Derived.Test.YtacpoandhocmhaaDoorBrProgBC
import Derived.Test.YtacpoandhocmhaaDoorCards
import Derived.Test.YtacpoandhocmhaaDoorTie
import Derived.ShutString
import Derived.OpenShut
import Derived.Deep.DeepHandedRow
import Derived.Lib.LaidTab
import Derived.Stop.LaidErr
import Derived.Shelf.Vars
namespace Go.Proofs.YtacpoandhocmhaaDoor
open Go.ChangeShapes Go.WideShapes Go.ChangeAt Go.RowKit

theorem gTab : Tryd.prog.globalNamed "math/bits.deBruijn64tab" = some 1 := by kernel_rfl
theorem gTabType : (Tryd.prog.globals[1]?).map (·.type) = some 159 := by kernel_rfl
theorem cellsTab : Tryd.prog.cellsOf 159 = 64 := by kernel_rfl
theorem cellsU8 : Tryd.prog.cellsOf 5 = 1 := by kernel_rfl
theorem gOpn : Tryd.prog.globalNamed "placket/bracket.openers" = some 0 := by kernel_rfl
theorem gOpnType : (Tryd.prog.globals[0]?).map (·.type) = some 150 := by kernel_rfl
theorem cellsOpn : Tryd.prog.cellsOf 150 = 3 := by kernel_rfl
theorem gl_of {W : World} (h : laidMetH Tryd.prog [("math/bits.deBruijn64tab", Rows.laid_math_bits_deBruijn64tab), ("placket/bracket.openers", Rows.laid_placket_bracket_openers)] W) (hsh : W.ShapedOpen Tryd.prog) : Gl W := by
  have h0 : laidMet Tryd.prog [("math/bits.deBruijn64tab", Rows.laid_math_bits_deBruijn64tab), ("placket/bracket.openers", Rows.laid_placket_bracket_openers)] W := h
  have hT : Lib.TabIs Tryd.prog W "math/bits.deBruijn64tab" .u8 (Lib.deBruijn64tab.map Int.ofNat) :=
    Lib.tabIs_of_head gTab gTabType Tryd.underlying159 Tryd.underlying5 cellsU8 cellsTab h0
  have hO : Lib.TabIs Tryd.prog W "placket/bracket.openers" .u8 [58, 61, 46] :=
    Lib.tabIs_of_head gOpn gOpnType Tryd.underlying150 Tryd.underlying5 cellsU8 cellsOpn (laidMet.tail h0)
  obtain ⟨m, hm⟩ : ∃ m, W.cell? ⟨2, 0, none⟩ = some (.int .i64 m) :=
    cell_of_shapedOpen_int (t := 3) (zero := #[.int .i64 0]) hsh (of_decide_eq_true (by kernel_rfl)) (by kernel_rfl) rfl (by kernel_rfl) (by kernel_rfl) Tryd.underlying3
  refine ⟨fun j hj => ?_, hO.cell gOpn 0 (by decide), hO.cell gOpn 1 (by decide), hO.cell gOpn 2 (by decide), ⟨m, hm⟩, ?_⟩
  · rw [hT.cell gTab j (by rw [List.length_map]; exact hj)]
    simp only [List.getD, List.getElem?_map]
    rw [List.getElem?_eq_getElem hj]
    rfl
  · have h : 2 < W.heap.size := by
      cases hh : W.heap[2]? with
      | none => simp [World.cell?, hh] at hm
      | some o => exact (Array.getElem?_eq_some_iff.1 hh).1
    exact h
def layCells (cs : Array Value) : Obj → Obj
  | .cells _ t frozen => .cells cs t frozen
  | o => o
/-- A world for the witness: the settled one, the variables holding what the list says. -/
noncomputable def laidWorld (os : Os) : World :=
  { World.holding Tryd.prog os ⟨#[], #[], []⟩ with heap := ((World.holding Tryd.prog os ⟨#[], #[], []⟩).heap.modify 1 (layCells (Lib.deBruijn64tab.map fun n => Value.int .u8 (Int.ofNat n)).toArray)).modify 0 (layCells #[.int .u8 58, .int .u8 61, .int .u8 46]) }
end Go.Proofs.YtacpoandhocmhaaDoor
