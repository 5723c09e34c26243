/- The proof's texts AdGlob: what the claim reaches of them. -/
import Derived.Test.YtjbnogjkgmkagaaGreatDoorAs26
import Derived.Test.YtjbnogjkgmkagaaGreatDoorAs09
import Derived.Test.YtjbnogjkgmkagaaGreatDoorCards
import Derived.Test.YtjbnogjkgmkagaaGreatDoorTie
import Derived.ShutString
import Derived.OpenShut
import Derived.Deep.DeepHandedRow
import Derived.Lib.LaidTab
import Derived.Stop.LaidErr
import Derived.Shelf.Vars
namespace Go.Proofs.YtjbnogjkgmkagaaGreatDoor
open Go.ChangeShapes Go.WideShapes Go.ChangeAt Go.RowKit
theorem gTab : Tryz.prog.globalNamed "math/bits.deBruijn64tab" = some 5 := by kernel_rfl
theorem gTabType : (Tryz.prog.globals[5]?).map (·.type) = some 298 := by kernel_rfl
theorem cellsTab : Tryz.prog.cellsOf 298 = 64 := by kernel_rfl
theorem cellsU8 : Tryz.prog.cellsOf 5 = 1 := by kernel_rfl
theorem gOpn : Tryz.prog.globalNamed "placket/bracket.openers" = some 4 := by kernel_rfl
theorem gOpnType : (Tryz.prog.globals[4]?).map (·.type) = some 290 := by kernel_rfl
theorem cellsOpn : Tryz.prog.cellsOf 290 = 3 := by kernel_rfl
theorem gAhd : Tryz.prog.globalNamed "placket/piece.ahead" = some 0 := by kernel_rfl
theorem gAhdType : (Tryz.prog.globals[0]?).map (·.type) = some 237 := by kernel_rfl
theorem cellsAhd : Tryz.prog.cellsOf 237 = 2 := by kernel_rfl
theorem block_of_cell {W : World} (b : Nat) (v : Value) (hv : W.cell? ⟨b, 0, none⟩ = some v) : b < W.heap.size := by
 cases hh : W.heap[b]? with
 | none => simp [World.cell?, hh] at hv
 | some o => exact (Array.getElem?_eq_some_iff.1 hh).1
theorem g12_of {W : World} (h : laidMetH Tryz.prog [("math/bits.deBruijn64tab", Rows.laid_math_bits_deBruijn64tab), ("unicode/utf8.acceptRanges", Rows.laid_unicode_utf8_acceptRanges), ("placket/bracket.openers", Rows.laid_placket_bracket_openers), ("placket/piece.ahead", Rows.laid_placket_piece_ahead), ("unicode/utf8.first", Rows.laid_unicode_utf8_first)] W) (hsh : W.ShapedOpen Tryz.prog) : Gl W ∧ GP W := by
 have h0 : laidMet Tryz.prog [("math/bits.deBruijn64tab", Rows.laid_math_bits_deBruijn64tab), ("unicode/utf8.acceptRanges", Rows.laid_unicode_utf8_acceptRanges), ("placket/bracket.openers", Rows.laid_placket_bracket_openers), ("placket/piece.ahead", Rows.laid_placket_piece_ahead), ("unicode/utf8.first", Rows.laid_unicode_utf8_first)] W := h
 have h2 := laidMet.tail (laidMet.tail h0)
 have hT : Lib.TabIs Tryz.prog W "math/bits.deBruijn64tab" .u8 (Lib.deBruijn64tab.map Int.ofNat) :=
  Lib.tabIs_of_head gTab gTabType Tryz.underlying298 Tryz.underlying5 cellsU8 cellsTab h0
 have hO : Lib.TabIs Tryz.prog W "placket/bracket.openers" .u8 [58, 61, 46] :=
  Lib.tabIs_of_head gOpn gOpnType Tryz.underlying290 Tryz.underlying5 cellsU8 cellsOpn h2
 have hH : Lib.TabIs Tryz.prog W "placket/piece.ahead" .u8 [94, 93] :=
  Lib.tabIs_of_head gAhd gAhdType Tryz.underlying237 Tryz.underlying5 cellsU8 cellsAhd (laidMet.tail h2)
 obtain ⟨m, hm⟩ : ∃ m, W.cell? ⟨1, 0, none⟩ = some (.int .i64 m) :=
  cell_of_shapedOpen_int (t := 3) (zero := #[.int .i64 0]) hsh (of_decide_eq_true (by kernel_rfl)) (by kernel_rfl) rfl (by kernel_rfl) (by kernel_rfl) Tryz.underlying3
 refine ⟨⟨fun j hj => ?_, hO.cell gOpn 0 (by decide), hO.cell gOpn 1 (by decide), hO.cell gOpn 2 (by decide), ⟨m, hm⟩, ?_⟩, hH.cell gAhd 0 (by decide), hH.cell gAhd 1 (by decide), block_of_cell _ _ (hH.cell gAhd 0 (by decide))⟩
 ·rw [hT.cell gTab j (by rw [List.length_map]; exact hj)]
  simp only [List.getD, List.getElem?_map]
  rw [List.getElem?_eq_getElem hj]
  rfl
 ·exact Nat.max_lt.2 ⟨Nat.max_lt.2 ⟨block_of_cell _ _ (hT.cell gTab 0 (by decide)), block_of_cell _ _ (hO.cell gOpn 0 (by decide))⟩, block_of_cell _ _ hm⟩
def layCells (cs : Array Value) : Obj → Obj
 | .cells _ t frozen => .cells cs t frozen
 | o => o
noncomputable def laidWorld (os : Os) : World :=
 { World.holding Tryz.prog os ⟨#[], #[], []⟩ with heap := (((((World.holding Tryz.prog os ⟨#[], #[], []⟩).heap.modify 5 (layCells (Lib.deBruijn64tab.map fun n => Value.int .u8 (Int.ofNat n)).toArray)).modify 4 (layCells #[.int .u8 58, .int .u8 61, .int .u8 46])).modify 0 (layCells #[.int .u8 94, .int .u8 93])).modify 3 (layCells (([128, 191, 160, 191, 128, 159, 144, 191, 128, 143, 0, 0, 0, 0, 0, 0, 0, 0, 0, 0, 0, 0, 0, 0, 0, 0, 0, 0, 0, 0, 0, 0] : List Nat).map fun n => Value.int .u8 (Int.ofNat n)).toArray)).modify 2 (layCells (Go.Pinned.utf8FirstZ.map fun n => Value.int .u8 (Int.ofNat n)).toArray) }
end Go.Proofs.YtjbnogjkgmkagaaGreatDoor
