/- The package's variables, as a row's list lays them: what the walks ask of a world. -/
import Derived.Test.YtacpoandhocmhaaGreatDoorBrProgBC
import Derived.Test.YtacpoandhocmhaaGreatDoorCards
import Derived.Test.YtacpoandhocmhaaGreatDoorTie
import Derived.ShutString
import Derived.OpenShut
import Derived.Deep.DeepHandedRow
import Derived.Lib.LaidTab
import Derived.Stop.LaidErr
import Derived.Shelf.Vars
namespace Go.Proofs.YtacpoandhocmhaaGreatDoor
open Go.ChangeShapes Go.WideShapes Go.ChangeAt Go.RowKit

theorem gTab : Tryz.prog.globalNamed "math/bits.deBruijn64tab" = some 0 := by kernel_rfl
theorem gTabType : (Tryz.prog.globals[0]?).map (·.type) = some 216 := by kernel_rfl
theorem cellsTab : Tryz.prog.cellsOf 216 = 64 := by kernel_rfl
theorem cellsU8 : Tryz.prog.cellsOf 5 = 1 := by kernel_rfl
theorem gOpn : Tryz.prog.globalNamed "placket/bracket.openers" = some 2 := by kernel_rfl
theorem gOpnType : (Tryz.prog.globals[2]?).map (·.type) = some 255 := by kernel_rfl
theorem cellsOpn : Tryz.prog.cellsOf 255 = 3 := by kernel_rfl
theorem gl_of {W : World} (h : laidMetH Tryz.prog [("math/bits.deBruijn64tab", Rows.laid_math_bits_deBruijn64tab), ("placket/bracket.openers", Rows.laid_placket_bracket_openers)] W) (hsh : W.ShapedOpen Tryz.prog) : Gl W := by
  have h0 : laidMet Tryz.prog [("math/bits.deBruijn64tab", Rows.laid_math_bits_deBruijn64tab), ("placket/bracket.openers", Rows.laid_placket_bracket_openers)] W := h
  have hT : Lib.TabIs Tryz.prog W "math/bits.deBruijn64tab" .u8 (Lib.deBruijn64tab.map Int.ofNat) :=
    Lib.tabIs_of_head gTab gTabType Tryz.underlying216 Tryz.underlying5 cellsU8 cellsTab h0
  have hO : Lib.TabIs Tryz.prog W "placket/bracket.openers" .u8 [58, 61, 46] :=
    Lib.tabIs_of_head gOpn gOpnType Tryz.underlying255 Tryz.underlying5 cellsU8 cellsOpn (laidMet.tail h0)
  obtain ⟨m, hm⟩ : ∃ m, W.cell? ⟨4, 0, none⟩ = some (.int .i64 m) :=
    cell_of_shapedOpen_int (t := 3) (zero := #[.int .i64 0]) hsh (of_decide_eq_true (by kernel_rfl)) (by kernel_rfl) rfl (by kernel_rfl) (by kernel_rfl) Tryz.underlying3
  refine ⟨fun j hj => ?_, hO.cell gOpn 0 (by decide), hO.cell gOpn 1 (by decide), hO.cell gOpn 2 (by decide), ⟨m, hm⟩, ?_⟩
  · rw [hT.cell gTab j (by rw [List.length_map]; exact hj)]
    simp only [List.getD, List.getElem?_map]
    rw [List.getElem?_eq_getElem hj]
    rfl
  · have hlt : ∀ (b : Nat) (v : Value), W.cell? ⟨b, 0, none⟩ = some v → b < W.heap.size := fun b v hv => by
      cases hh : W.heap[b]? with
      | none => simp [World.cell?, hh] at hv
      | some o => exact (Array.getElem?_eq_some_iff.1 hh).1
    exact Nat.max_lt.2 ⟨Nat.max_lt.2 ⟨hlt _ _ (hT.cell gTab 0 (by decide)), hlt _ _ (hO.cell gOpn 0 (by decide))⟩, hlt _ _ hm⟩
def layCells (cs : Array Value) : Obj → Obj
  | .cells _ t frozen => .cells cs t frozen
  | o => o
/-- A world for the witness: the settled one, the variables holding what the list says. -/
noncomputable def laidWorld (os : Os) : World :=
  { World.holding Tryz.prog os ⟨#[], #[], []⟩ with heap := ((World.holding Tryz.prog os ⟨#[], #[], []⟩).heap.modify 0 (layCells (Lib.deBruijn64tab.map fun n => Value.int .u8 (Int.ofNat n)).toArray)).modify 2 (layCells #[.int .u8 58, .int .u8 61, .int .u8 46]) }
end Go.Proofs.YtacpoandhocmhaaGreatDoor
