/- The variables of layer 6, as a row's list lays them: what the walks ask of a world. -/
import Derived.Test.YtpmeicclngckeaaGreatDoorShEW
import Derived.Test.YtpmeicclngckeaaGreatDoorCards
import Derived.Test.YtpmeicclngckeaaGreatDoorTie
import Derived.ShutString
import Derived.OpenShut
import Derived.Deep.DeepHandedRow
import Derived.Lib.LaidTab
import Derived.Stop.LaidErr
import Derived.Shelf.Vars
namespace Go.Proofs.YtpmeicclngckeaaGreatDoor
open Go.ChangeShapes Go.WideShapes Go.ChangeAt Go.RowKit

theorem gTab : Tryz.prog.globalNamed "math/bits.deBruijn64tab" = some 0 := by kernel_rfl
theorem gTabType : (Tryz.prog.globals[0]?).map (·.type) = some 181 := by kernel_rfl
theorem cellsTab : Tryz.prog.cellsOf 181 = 64 := by kernel_rfl
theorem cellsU8 : Tryz.prog.cellsOf 5 = 1 := by kernel_rfl
theorem gOpn : Tryz.prog.globalNamed "placket/bracket.openers" = some 2 := by kernel_rfl
theorem gOpnType : (Tryz.prog.globals[2]?).map (·.type) = some 221 := by kernel_rfl
theorem cellsOpn : Tryz.prog.cellsOf 221 = 3 := by kernel_rfl
theorem gPowType : (Tryz.prog.globals[1]?).map (·.type) = some 216 := by kernel_rfl
theorem cellsPow : Tryz.prog.cellsOf 216 = 20 := by kernel_rfl
theorem cellsU64 : Tryz.prog.cellsOf 22 = 1 := by kernel_rfl
theorem g6_of {W : World} (h : laidMetH Tryz.prog [("math/bits.deBruijn32tab", Rows.laid_math_bits_deBruijn32tab), ("math/bits.deBruijn64tab", Rows.laid_math_bits_deBruijn64tab), ("internal/strconv.uint64pow10", Rows.laid_internal_strconv_uint64pow10), ("placket/bracket.openers", Rows.laid_placket_bracket_openers)] W) (hsh : W.ShapedOpen Tryz.prog) : G6 W := by
  have h0 : laidMet Tryz.prog [("math/bits.deBruijn32tab", Rows.laid_math_bits_deBruijn32tab), ("math/bits.deBruijn64tab", Rows.laid_math_bits_deBruijn64tab), ("internal/strconv.uint64pow10", Rows.laid_internal_strconv_uint64pow10), ("placket/bracket.openers", Rows.laid_placket_bracket_openers)] W := h
  have h1 := laidMet.tail h0
  have h2 := laidMet.tail h1
  have hT : Lib.TabIs Tryz.prog W "math/bits.deBruijn64tab" .u8 (Lib.deBruijn64tab.map Int.ofNat) :=
    Lib.tabIs_of_head gTab gTabType Tryz.underlying181 Tryz.underlying5 cellsU8 cellsTab h1
  have hP : Pow W := Lib.tabIs_of_head pow_g gPowType Tryz.underlying216 Tryz.underlying22 cellsU64 cellsPow h2
  have hO : Lib.TabIs Tryz.prog W "placket/bracket.openers" .u8 [58, 61, 46] :=
    Lib.tabIs_of_head gOpn gOpnType Tryz.underlying221 Tryz.underlying5 cellsU8 cellsOpn (laidMet.tail h2)
  obtain ⟨m, hm⟩ : ∃ m, W.cell? ⟨4, 0, none⟩ = some (.int .i64 m) :=
    cell_of_shapedOpen_int (t := 3) (zero := #[.int .i64 0]) hsh (of_decide_eq_true (by kernel_rfl)) (by kernel_rfl) rfl (by kernel_rfl) (by kernel_rfl) Tryz.underlying3
  refine ⟨⟨fun j hj => ?_, hO.cell gOpn 0 (by decide), hO.cell gOpn 1 (by decide), hO.cell gOpn 2 (by decide), ⟨m, hm⟩, ?_⟩, hP⟩
  · rw [hT.cell gTab j (by rw [List.length_map]; exact hj)]
    simp only [List.getD, List.getElem?_map]
    rw [List.getElem?_eq_getElem hj]
    rfl
  · have hlt : ∀ (b : Nat) (v : Value), W.cell? ⟨b, 0, none⟩ = some v → b < W.heap.size := fun b v hv => by
      cases hh : W.heap[b]? with
      | none => simp [World.cell?, hh] at hv
      | some o => exact (Array.getElem?_eq_some_iff.1 hh).1
    exact Nat.max_lt.2 ⟨Nat.max_lt.2 ⟨hlt _ _ (hT.cell gTab 0 (by decide)), hlt _ _ (hO.cell gOpn 0 (by decide))⟩, hlt _ _ hm⟩
def layCells (cs : Array Value) : Obj → Obj
  | .cells _ t frozen => .cells cs t frozen
  | o => o
/-- A world for the witness: the settled one, the variables holding what the list says. -/
noncomputable def laidWorld (os : Os) : World :=
  { World.holding Tryz.prog os ⟨#[], #[], []⟩ with heap := ((((World.holding Tryz.prog os ⟨#[], #[], []⟩).heap.modify 0 (layCells (Lib.deBruijn64tab.map fun n => Value.int .u8 (Int.ofNat n)).toArray)).modify 2 (layCells #[.int .u8 58, .int .u8 61, .int .u8 46])).modify 1 (layCells (Lib.pow10Tab.map fun z => Value.int .u64 z).toArray)).modify 3 (layCells (([0, 1, 28, 2, 29, 14, 24, 3, 30, 22, 20, 15, 25, 17, 4, 8, 31, 27, 13, 23, 21, 19, 16, 7, 26, 12, 18, 6, 11, 5, 10, 9] : List Nat).map fun n => Value.int .u8 (Int.ofNat n)).toArray) }
end Go.Proofs.YtpmeicclngckeaaGreatDoor
