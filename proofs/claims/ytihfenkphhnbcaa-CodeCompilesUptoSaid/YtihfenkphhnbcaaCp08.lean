/- The proof's texts NdTa, NdInner, NdStk: what the claim reaches of them. -/
import Derived.Test.YtihfenkphhnbcaaCp04
import Derived.Lib.Hide
import Derived.Test.YtihfenkphhnbcaaCp01
import Derived.Test.YtihfenkphhnbcaaCp03
import Derived.RangeFuncBox
import Derived.Maps.AppendAt
import Derived.WalkSmall
namespace Go.Proofs.Ytihfenkphhnbcaa
open Go.RowKit
@[go_sem] theorem ta_Empty_Empty (p : Value) (w : World) : (Instr.typeAssert (.iface 80 p) 37 80 true).run Try.prog w = .ok (.tuple #[p, .bool true]) w := by kernel_rfl
@[go_sem] theorem ta_Empty_One (p : Value) (w : World) : (Instr.typeAssert (.iface 80 p) 37 55 true).run Try.prog w = .ok (.tuple #[.agg #[.int .u64 0, .int .u64 0, .int .u64 0, .int .u64 0], .bool false]) w := by kernel_rfl
@[go_sem] theorem ta_Empty_Cat (p : Value) (w : World) : (Instr.typeAssert (.iface 80 p) 37 71 true).run Try.prog w = .ok (.tuple #[.agg #[.slice none 0 0], .bool false]) w := by kernel_rfl
@[go_sem] theorem ta_Empty_Alt (p : Value) (w : World) : (Instr.typeAssert (.iface 80 p) 37 72 true).run Try.prog w = .ok (.tuple #[.agg #[.slice none 0 0], .bool false]) w := by kernel_rfl
@[go_sem] theorem ta_Empty_Rep (p : Value) (w : World) : (Instr.typeAssert (.iface 80 p) 37 57 true).run Try.prog w = .ok (.tuple #[.agg #[.nilIface, .int .i64 0, .int .i64 0], .bool false]) w := by kernel_rfl
@[go_sem] theorem ta_Empty_Group (p : Value) (w : World) : (Instr.typeAssert (.iface 80 p) 37 74 true).run Try.prog w = .ok (.tuple #[.agg #[.int .i64 0, .nilIface], .bool false]) w := by kernel_rfl
@[go_sem] theorem ta_Empty_Back (p : Value) (w : World) : (Instr.typeAssert (.iface 80 p) 37 76 true).run Try.prog w = .ok (.tuple #[.agg #[.int .i64 0], .bool false]) w := by kernel_rfl
@[go_sem] theorem ta_Empty_Start (p : Value) (w : World) : (Instr.typeAssert (.iface 80 p) 37 78 true).run Try.prog w = .ok (.tuple #[.agg #[], .bool false]) w := by kernel_rfl
@[go_sem] theorem ta_Empty_End (p : Value) (w : World) : (Instr.typeAssert (.iface 80 p) 37 79 true).run Try.prog w = .ok (.tuple #[.agg #[], .bool false]) w := by kernel_rfl
@[go_sem] theorem ta_One_Empty (p : Value) (w : World) : (Instr.typeAssert (.iface 55 p) 37 80 true).run Try.prog w = .ok (.tuple #[.agg #[], .bool false]) w := by kernel_rfl
@[go_sem] theorem ta_One_One (p : Value) (w : World) : (Instr.typeAssert (.iface 55 p) 37 55 true).run Try.prog w = .ok (.tuple #[p, .bool true]) w := by kernel_rfl
@[go_sem] theorem ta_One_Cat (p : Value) (w : World) : (Instr.typeAssert (.iface 55 p) 37 71 true).run Try.prog w = .ok (.tuple #[.agg #[.slice none 0 0], .bool false]) w := by kernel_rfl
@[go_sem] theorem ta_One_Alt (p : Value) (w : World) : (Instr.typeAssert (.iface 55 p) 37 72 true).run Try.prog w = .ok (.tuple #[.agg #[.slice none 0 0], .bool false]) w := by kernel_rfl
@[go_sem] theorem ta_One_Rep (p : Value) (w : World) : (Instr.typeAssert (.iface 55 p) 37 57 true).run Try.prog w = .ok (.tuple #[.agg #[.nilIface, .int .i64 0, .int .i64 0], .bool false]) w := by kernel_rfl
@[go_sem] theorem ta_One_Group (p : Value) (w : World) : (Instr.typeAssert (.iface 55 p) 37 74 true).run Try.prog w = .ok (.tuple #[.agg #[.int .i64 0, .nilIface], .bool false]) w := by kernel_rfl
@[go_sem] theorem ta_One_Back (p : Value) (w : World) : (Instr.typeAssert (.iface 55 p) 37 76 true).run Try.prog w = .ok (.tuple #[.agg #[.int .i64 0], .bool false]) w := by kernel_rfl
@[go_sem] theorem ta_One_Start (p : Value) (w : World) : (Instr.typeAssert (.iface 55 p) 37 78 true).run Try.prog w = .ok (.tuple #[.agg #[], .bool false]) w := by kernel_rfl
@[go_sem] theorem ta_One_End (p : Value) (w : World) : (Instr.typeAssert (.iface 55 p) 37 79 true).run Try.prog w = .ok (.tuple #[.agg #[], .bool false]) w := by kernel_rfl
@[go_sem] theorem ta_Cat_Empty (p : Value) (w : World) : (Instr.typeAssert (.iface 71 p) 37 80 true).run Try.prog w = .ok (.tuple #[.agg #[], .bool false]) w := by kernel_rfl
@[go_sem] theorem ta_Cat_One (p : Value) (w : World) : (Instr.typeAssert (.iface 71 p) 37 55 true).run Try.prog w = .ok (.tuple #[.agg #[.int .u64 0, .int .u64 0, .int .u64 0, .int .u64 0], .bool false]) w := by kernel_rfl
@[go_sem] theorem ta_Cat_Cat (p : Value) (w : World) : (Instr.typeAssert (.iface 71 p) 37 71 true).run Try.prog w = .ok (.tuple #[p, .bool true]) w := by kernel_rfl
@[go_sem] theorem ta_Cat_Alt (p : Value) (w : World) : (Instr.typeAssert (.iface 71 p) 37 72 true).run Try.prog w = .ok (.tuple #[.agg #[.slice none 0 0], .bool false]) w := by kernel_rfl
@[go_sem] theorem ta_Cat_Rep (p : Value) (w : World) : (Instr.typeAssert (.iface 71 p) 37 57 true).run Try.prog w = .ok (.tuple #[.agg #[.nilIface, .int .i64 0, .int .i64 0], .bool false]) w := by kernel_rfl
@[go_sem] theorem ta_Cat_Group (p : Value) (w : World) : (Instr.typeAssert (.iface 71 p) 37 74 true).run Try.prog w = .ok (.tuple #[.agg #[.int .i64 0, .nilIface], .bool false]) w := by kernel_rfl
@[go_sem] theorem ta_Cat_Back (p : Value) (w : World) : (Instr.typeAssert (.iface 71 p) 37 76 true).run Try.prog w = .ok (.tuple #[.agg #[.int .i64 0], .bool false]) w := by kernel_rfl
@[go_sem] theorem ta_Cat_Start (p : Value) (w : World) : (Instr.typeAssert (.iface 71 p) 37 78 true).run Try.prog w = .ok (.tuple #[.agg #[], .bool false]) w := by kernel_rfl
@[go_sem] theorem ta_Cat_End (p : Value) (w : World) : (Instr.typeAssert (.iface 71 p) 37 79 true).run Try.prog w = .ok (.tuple #[.agg #[], .bool false]) w := by kernel_rfl
@[go_sem] theorem ta_Alt_Empty (p : Value) (w : World) : (Instr.typeAssert (.iface 72 p) 37 80 true).run Try.prog w = .ok (.tuple #[.agg #[], .bool false]) w := by kernel_rfl
@[go_sem] theorem ta_Alt_One (p : Value) (w : World) : (Instr.typeAssert (.iface 72 p) 37 55 true).run Try.prog w = .ok (.tuple #[.agg #[.int .u64 0, .int .u64 0, .int .u64 0, .int .u64 0], .bool false]) w := by kernel_rfl
@[go_sem] theorem ta_Alt_Cat (p : Value) (w : World) : (Instr.typeAssert (.iface 72 p) 37 71 true).run Try.prog w = .ok (.tuple #[.agg #[.slice none 0 0], .bool false]) w := by kernel_rfl
@[go_sem] theorem ta_Alt_Alt (p : Value) (w : World) : (Instr.typeAssert (.iface 72 p) 37 72 true).run Try.prog w = .ok (.tuple #[p, .bool true]) w := by kernel_rfl
@[go_sem] theorem ta_Alt_Rep (p : Value) (w : World) : (Instr.typeAssert (.iface 72 p) 37 57 true).run Try.prog w = .ok (.tuple #[.agg #[.nilIface, .int .i64 0, .int .i64 0], .bool false]) w := by kernel_rfl
@[go_sem] theorem ta_Alt_Group (p : Value) (w : World) : (Instr.typeAssert (.iface 72 p) 37 74 true).run Try.prog w = .ok (.tuple #[.agg #[.int .i64 0, .nilIface], .bool false]) w := by kernel_rfl
@[go_sem] theorem ta_Alt_Back (p : Value) (w : World) : (Instr.typeAssert (.iface 72 p) 37 76 true).run Try.prog w = .ok (.tuple #[.agg #[.int .i64 0], .bool false]) w := by kernel_rfl
@[go_sem] theorem ta_Alt_Start (p : Value) (w : World) : (Instr.typeAssert (.iface 72 p) 37 78 true).run Try.prog w = .ok (.tuple #[.agg #[], .bool false]) w := by kernel_rfl
@[go_sem] theorem ta_Alt_End (p : Value) (w : World) : (Instr.typeAssert (.iface 72 p) 37 79 true).run Try.prog w = .ok (.tuple #[.agg #[], .bool false]) w := by kernel_rfl
@[go_sem] theorem ta_Rep_Empty (p : Value) (w : World) : (Instr.typeAssert (.iface 57 p) 37 80 true).run Try.prog w = .ok (.tuple #[.agg #[], .bool false]) w := by kernel_rfl
@[go_sem] theorem ta_Rep_One (p : Value) (w : World) : (Instr.typeAssert (.iface 57 p) 37 55 true).run Try.prog w = .ok (.tuple #[.agg #[.int .u64 0, .int .u64 0, .int .u64 0, .int .u64 0], .bool false]) w := by kernel_rfl
@[go_sem] theorem ta_Rep_Cat (p : Value) (w : World) : (Instr.typeAssert (.iface 57 p) 37 71 true).run Try.prog w = .ok (.tuple #[.agg #[.slice none 0 0], .bool false]) w := by kernel_rfl
@[go_sem] theorem ta_Rep_Alt (p : Value) (w : World) : (Instr.typeAssert (.iface 57 p) 37 72 true).run Try.prog w = .ok (.tuple #[.agg #[.slice none 0 0], .bool false]) w := by kernel_rfl
@[go_sem] theorem ta_Rep_Rep (p : Value) (w : World) : (Instr.typeAssert (.iface 57 p) 37 57 true).run Try.prog w = .ok (.tuple #[p, .bool true]) w := by kernel_rfl
@[go_sem] theorem ta_Rep_Group (p : Value) (w : World) : (Instr.typeAssert (.iface 57 p) 37 74 true).run Try.prog w = .ok (.tuple #[.agg #[.int .i64 0, .nilIface], .bool false]) w := by kernel_rfl
@[go_sem] theorem ta_Rep_Back (p : Value) (w : World) : (Instr.typeAssert (.iface 57 p) 37 76 true).run Try.prog w = .ok (.tuple #[.agg #[.int .i64 0], .bool false]) w := by kernel_rfl
@[go_sem] theorem ta_Rep_Start (p : Value) (w : World) : (Instr.typeAssert (.iface 57 p) 37 78 true).run Try.prog w = .ok (.tuple #[.agg #[], .bool false]) w := by kernel_rfl
@[go_sem] theorem ta_Rep_End (p : Value) (w : World) : (Instr.typeAssert (.iface 57 p) 37 79 true).run Try.prog w = .ok (.tuple #[.agg #[], .bool false]) w := by kernel_rfl
@[go_sem] theorem ta_Group_Empty (p : Value) (w : World) : (Instr.typeAssert (.iface 74 p) 37 80 true).run Try.prog w = .ok (.tuple #[.agg #[], .bool false]) w := by kernel_rfl
@[go_sem] theorem ta_Group_One (p : Value) (w : World) : (Instr.typeAssert (.iface 74 p) 37 55 true).run Try.prog w = .ok (.tuple #[.agg #[.int .u64 0, .int .u64 0, .int .u64 0, .int .u64 0], .bool false]) w := by kernel_rfl
@[go_sem] theorem ta_Group_Cat (p : Value) (w : World) : (Instr.typeAssert (.iface 74 p) 37 71 true).run Try.prog w = .ok (.tuple #[.agg #[.slice none 0 0], .bool false]) w := by kernel_rfl
@[go_sem] theorem ta_Group_Alt (p : Value) (w : World) : (Instr.typeAssert (.iface 74 p) 37 72 true).run Try.prog w = .ok (.tuple #[.agg #[.slice none 0 0], .bool false]) w := by kernel_rfl
@[go_sem] theorem ta_Group_Rep (p : Value) (w : World) : (Instr.typeAssert (.iface 74 p) 37 57 true).run Try.prog w = .ok (.tuple #[.agg #[.nilIface, .int .i64 0, .int .i64 0], .bool false]) w := by kernel_rfl
@[go_sem] theorem ta_Group_Group (p : Value) (w : World) : (Instr.typeAssert (.iface 74 p) 37 74 true).run Try.prog w = .ok (.tuple #[p, .bool true]) w := by kernel_rfl
@[go_sem] theorem ta_Group_Back (p : Value) (w : World) : (Instr.typeAssert (.iface 74 p) 37 76 true).run Try.prog w = .ok (.tuple #[.agg #[.int .i64 0], .bool false]) w := by kernel_rfl
@[go_sem] theorem ta_Group_Start (p : Value) (w : World) : (Instr.typeAssert (.iface 74 p) 37 78 true).run Try.prog w = .ok (.tuple #[.agg #[], .bool false]) w := by kernel_rfl
@[go_sem] theorem ta_Group_End (p : Value) (w : World) : (Instr.typeAssert (.iface 74 p) 37 79 true).run Try.prog w = .ok (.tuple #[.agg #[], .bool false]) w := by kernel_rfl
@[go_sem] theorem ta_Back_Empty (p : Value) (w : World) : (Instr.typeAssert (.iface 76 p) 37 80 true).run Try.prog w = .ok (.tuple #[.agg #[], .bool false]) w := by kernel_rfl
@[go_sem] theorem ta_Back_One (p : Value) (w : World) : (Instr.typeAssert (.iface 76 p) 37 55 true).run Try.prog w = .ok (.tuple #[.agg #[.int .u64 0, .int .u64 0, .int .u64 0, .int .u64 0], .bool false]) w := by kernel_rfl
@[go_sem] theorem ta_Back_Cat (p : Value) (w : World) : (Instr.typeAssert (.iface 76 p) 37 71 true).run Try.prog w = .ok (.tuple #[.agg #[.slice none 0 0], .bool false]) w := by kernel_rfl
@[go_sem] theorem ta_Back_Alt (p : Value) (w : World) : (Instr.typeAssert (.iface 76 p) 37 72 true).run Try.prog w = .ok (.tuple #[.agg #[.slice none 0 0], .bool false]) w := by kernel_rfl
@[go_sem] theorem ta_Back_Rep (p : Value) (w : World) : (Instr.typeAssert (.iface 76 p) 37 57 true).run Try.prog w = .ok (.tuple #[.agg #[.nilIface, .int .i64 0, .int .i64 0], .bool false]) w := by kernel_rfl
@[go_sem] theorem ta_Back_Group (p : Value) (w : World) : (Instr.typeAssert (.iface 76 p) 37 74 true).run Try.prog w = .ok (.tuple #[.agg #[.int .i64 0, .nilIface], .bool false]) w := by kernel_rfl
@[go_sem] theorem ta_Back_Back (p : Value) (w : World) : (Instr.typeAssert (.iface 76 p) 37 76 true).run Try.prog w = .ok (.tuple #[p, .bool true]) w := by kernel_rfl
@[go_sem] theorem ta_Back_Start (p : Value) (w : World) : (Instr.typeAssert (.iface 76 p) 37 78 true).run Try.prog w = .ok (.tuple #[.agg #[], .bool false]) w := by kernel_rfl
@[go_sem] theorem ta_Back_End (p : Value) (w : World) : (Instr.typeAssert (.iface 76 p) 37 79 true).run Try.prog w = .ok (.tuple #[.agg #[], .bool false]) w := by kernel_rfl
@[go_sem] theorem ta_Start_Empty (p : Value) (w : World) : (Instr.typeAssert (.iface 78 p) 37 80 true).run Try.prog w = .ok (.tuple #[.agg #[], .bool false]) w := by kernel_rfl
@[go_sem] theorem ta_Start_One (p : Value) (w : World) : (Instr.typeAssert (.iface 78 p) 37 55 true).run Try.prog w = .ok (.tuple #[.agg #[.int .u64 0, .int .u64 0, .int .u64 0, .int .u64 0], .bool false]) w := by kernel_rfl
@[go_sem] theorem ta_Start_Cat (p : Value) (w : World) : (Instr.typeAssert (.iface 78 p) 37 71 true).run Try.prog w = .ok (.tuple #[.agg #[.slice none 0 0], .bool false]) w := by kernel_rfl
@[go_sem] theorem ta_Start_Alt (p : Value) (w : World) : (Instr.typeAssert (.iface 78 p) 37 72 true).run Try.prog w = .ok (.tuple #[.agg #[.slice none 0 0], .bool false]) w := by kernel_rfl
@[go_sem] theorem ta_Start_Rep (p : Value) (w : World) : (Instr.typeAssert (.iface 78 p) 37 57 true).run Try.prog w = .ok (.tuple #[.agg #[.nilIface, .int .i64 0, .int .i64 0], .bool false]) w := by kernel_rfl
@[go_sem] theorem ta_Start_Group (p : Value) (w : World) : (Instr.typeAssert (.iface 78 p) 37 74 true).run Try.prog w = .ok (.tuple #[.agg #[.int .i64 0, .nilIface], .bool false]) w := by kernel_rfl
@[go_sem] theorem ta_Start_Back (p : Value) (w : World) : (Instr.typeAssert (.iface 78 p) 37 76 true).run Try.prog w = .ok (.tuple #[.agg #[.int .i64 0], .bool false]) w := by kernel_rfl
@[go_sem] theorem ta_Start_Start (p : Value) (w : World) : (Instr.typeAssert (.iface 78 p) 37 78 true).run Try.prog w = .ok (.tuple #[p, .bool true]) w := by kernel_rfl
@[go_sem] theorem ta_Start_End (p : Value) (w : World) : (Instr.typeAssert (.iface 78 p) 37 79 true).run Try.prog w = .ok (.tuple #[.agg #[], .bool false]) w := by kernel_rfl
@[go_sem] theorem ta_End_Empty (p : Value) (w : World) : (Instr.typeAssert (.iface 79 p) 37 80 true).run Try.prog w = .ok (.tuple #[.agg #[], .bool false]) w := by kernel_rfl
@[go_sem] theorem ta_End_One (p : Value) (w : World) : (Instr.typeAssert (.iface 79 p) 37 55 true).run Try.prog w = .ok (.tuple #[.agg #[.int .u64 0, .int .u64 0, .int .u64 0, .int .u64 0], .bool false]) w := by kernel_rfl
@[go_sem] theorem ta_End_Cat (p : Value) (w : World) : (Instr.typeAssert (.iface 79 p) 37 71 true).run Try.prog w = .ok (.tuple #[.agg #[.slice none 0 0], .bool false]) w := by kernel_rfl
@[go_sem] theorem ta_End_Alt (p : Value) (w : World) : (Instr.typeAssert (.iface 79 p) 37 72 true).run Try.prog w = .ok (.tuple #[.agg #[.slice none 0 0], .bool false]) w := by kernel_rfl
@[go_sem] theorem ta_End_Rep (p : Value) (w : World) : (Instr.typeAssert (.iface 79 p) 37 57 true).run Try.prog w = .ok (.tuple #[.agg #[.nilIface, .int .i64 0, .int .i64 0], .bool false]) w := by kernel_rfl
@[go_sem] theorem ta_End_Group (p : Value) (w : World) : (Instr.typeAssert (.iface 79 p) 37 74 true).run Try.prog w = .ok (.tuple #[.agg #[.int .i64 0, .nilIface], .bool false]) w := by kernel_rfl
@[go_sem] theorem ta_End_Back (p : Value) (w : World) : (Instr.typeAssert (.iface 79 p) 37 76 true).run Try.prog w = .ok (.tuple #[.agg #[.int .i64 0], .bool false]) w := by kernel_rfl
@[go_sem] theorem ta_End_Start (p : Value) (w : World) : (Instr.typeAssert (.iface 79 p) 37 78 true).run Try.prog w = .ok (.tuple #[.agg #[], .bool false]) w := by kernel_rfl
@[go_sem] theorem ta_End_End (p : Value) (w : World) : (Instr.typeAssert (.iface 79 p) 37 79 true).run Try.prog w = .ok (.tuple #[p, .bool true]) w := by kernel_rfl
@[go_sem] theorem ta_nil_Empty (w : World) : (Instr.typeAssert .nilIface 37 80 true).run Try.prog w = .ok (.tuple #[.agg #[], .bool false]) w := by kernel_rfl
@[go_sem] theorem ta_nil_One (w : World) : (Instr.typeAssert .nilIface 37 55 true).run Try.prog w = .ok (.tuple #[.agg #[.int .u64 0, .int .u64 0, .int .u64 0, .int .u64 0], .bool false]) w := by kernel_rfl
@[go_sem] theorem ta_nil_Cat (w : World) : (Instr.typeAssert .nilIface 37 71 true).run Try.prog w = .ok (.tuple #[.agg #[.slice none 0 0], .bool false]) w := by kernel_rfl
@[go_sem] theorem ta_nil_Alt (w : World) : (Instr.typeAssert .nilIface 37 72 true).run Try.prog w = .ok (.tuple #[.agg #[.slice none 0 0], .bool false]) w := by kernel_rfl
@[go_sem] theorem ta_nil_Rep (w : World) : (Instr.typeAssert .nilIface 37 57 true).run Try.prog w = .ok (.tuple #[.agg #[.nilIface, .int .i64 0, .int .i64 0], .bool false]) w := by kernel_rfl
@[go_sem] theorem ta_nil_Group (w : World) : (Instr.typeAssert .nilIface 37 74 true).run Try.prog w = .ok (.tuple #[.agg #[.int .i64 0, .nilIface], .bool false]) w := by kernel_rfl
@[go_sem] theorem ta_nil_Back (w : World) : (Instr.typeAssert .nilIface 37 76 true).run Try.prog w = .ok (.tuple #[.agg #[.int .i64 0], .bool false]) w := by kernel_rfl
@[go_sem] theorem ta_nil_Start (w : World) : (Instr.typeAssert .nilIface 37 78 true).run Try.prog w = .ok (.tuple #[.agg #[], .bool false]) w := by kernel_rfl
@[go_sem] theorem ta_nil_End (w : World) : (Instr.typeAssert .nilIface 37 79 true).run Try.prog w = .ok (.tuple #[.agg #[], .bool false]) w := by kernel_rfl
end Go.Proofs.Ytihfenkphhnbcaa
namespace Go.Proofs.Ytihfenkphhnbcaa
open Go.RowKit
def NdX (F : Nat → Prop) (w : World) (d : Nd) (v : Value) : Prop := ∃ n, NdAt F n w d v
def NdRw (F : Nat → Prop) (w : World) (l : List Nd) (a : Option Addr) (cap : Nat) : Prop :=
  l.length ≤ cap ∧ cap ≤ maxLen ∧ (0 < l.length → ∃ b o, a = some ⟨b, o, none⟩ ∧ F b ∧ b < w.heap.size ∧ ∀ i (h : i < l.length), ∃ u, w.cell? ⟨b, o + i, none⟩ = some u ∧ NdX F w l[i] u)
theorem NdX.keep {F G : Nat → Prop} {w w' : World} (hs : w.heap.size ≤ w'.heap.size) (hF : ∀ b, F b → b < w.heap.size → G b ∧ ∀ o, w'.cell? ⟨b, o, none⟩ = w.cell? ⟨b, o, none⟩) {d : Nd} {v : Value} (h : NdX F w d v) : NdX G w' d v := by
  obtain ⟨n, h⟩ := h
  exact ⟨n, NdAt.keep hs hF n d v h⟩
theorem NdRw.keep {F G : Nat → Prop} {w w' : World} (hs : w.heap.size ≤ w'.heap.size) (hF : ∀ b, F b → b < w.heap.size → G b ∧ ∀ o, w'.cell? ⟨b, o, none⟩ = w.cell? ⟨b, o, none⟩) {l : List Nd} {a : Option Addr} {cap : Nat} (h : NdRw F w l a cap) : NdRw G w' l a cap := by
  refine ⟨h.1, h.2.1, fun h0 => ?_⟩
  obtain ⟨b, o, rfl, hf, hb, hx⟩ := h.2.2 h0
  refine ⟨b, o, rfl, (hF b hf hb).1, Nat.lt_of_lt_of_le hb hs, fun i hi => ?_⟩
  obtain ⟨u, hu, hr⟩ := hx i hi
  exact ⟨u, ((hF b hf hb).2 _).trans hu, hr.keep hs hF⟩
theorem NdX.below {F : Nat → Prop} {w w' : World} (hb : Below w.heap.size w w') {d : Nd} {v : Value} (h : NdX F w d v) : NdX F w' d v :=
  h.keep hb.size (fun b hf hlt => ⟨hf, fun o => hb.cell (p := ⟨b, o, none⟩) hlt⟩)
theorem NdRw.below {F : Nat → Prop} {w w' : World} (hb : Below w.heap.size w w') {l : List Nd} {a : Option Addr} {cap : Nat} (h : NdRw F w l a cap) : NdRw F w' l a cap :=
  h.keep hb.size (fun b hf hlt => ⟨hf, fun o => hb.cell (p := ⟨b, o, none⟩) hlt⟩)
theorem NdX.drew {F : Nat → Prop} {w : World} {d : Nd} {v : Value} (h : NdX F w d v) : NdX F w.drew d v := h.below (Below.drew (Below.refl _ _))
theorem NdRw.drew {F : Nat → Prop} {w : World} {l : List Nd} {a : Option Addr} {cap : Nat} (h : NdRw F w l a cap) : NdRw F w.drew l a cap := h.below (Below.drew (Below.refl _ _))
theorem NdRw.nil (F : Nat → Prop) (w : World) (a : Option Addr) (cap : Nat) (h : cap ≤ maxLen) : NdRw F w [] a cap := ⟨Nat.zero_le _, h, fun h => absurd h (by simp)⟩
theorem NdRw.of {F : Nat → Prop} {n : Nat} {w : World} {l : List Nd} {a : Option Addr} {cap : Nat} (h : NdRow F n w l a cap) : NdRw F w l a cap := by
  refine ⟨h.1, h.2.1, fun h0 => ?_⟩
  obtain ⟨b, o, rfl, hf, hb, hx⟩ := h.2.2 h0
  refine ⟨b, o, rfl, hf, hb, fun i hi => ?_⟩
  obtain ⟨u, hu, hr⟩ := hx i hi
  exact ⟨u, hu, n, hr⟩
theorem NdRw.tail {F : Nat → Prop} {w : World} {d : Nd} {l : List Nd} {a : Option Addr} {cap : Nat} (h : NdRw F w (d :: l) a cap) :
    ∃ b o u, a = some ⟨b, o, none⟩ ∧ F b ∧ b < w.heap.size ∧ 1 ≤ cap ∧ w.cell? ⟨b, o, none⟩ = some u ∧ NdX F w d u ∧ NdRw F w l (some ⟨b, o + 1, none⟩) (cap - 1) := by
  obtain ⟨b, o, rfl, hf, hb, hx⟩ := h.2.2 (by simp)
  obtain ⟨u, hu, hr⟩ := hx 0 (by simp)
  have h1 := h.1
  have h2 := h.2.1
  simp at h1
  refine ⟨b, o, u, rfl, hf, hb, by omega, hu, hr, by omega, by omega, fun _ => ⟨b, o + 1, rfl, hf, hb, fun i hi => ?_⟩⟩
  obtain ⟨u', hu', hr'⟩ := hx (i + 1) (by simpa using hi)
  exact ⟨u', by rw [← hu', Nat.add_assoc, Nat.add_comm 1 i], by simpa using hr'⟩
theorem ndrw_one {F G : Nat → Prop} {w : World} {d : Nd} {u : Value} {T : TypeId} {k : Nat} (hk : w.heap.size = k) (h : NdX F w d u) (hG : ∀ b, F b → b < w.heap.size → G b) (hn : G w.heap.size) : NdRw G (w.alloc (.cells #[u] T)) [d] (some ⟨k, 0, none⟩) 1 := by
  subst hk
  have hb := Blk.new w #[u] T _ rfl
  refine ⟨Nat.le_refl _, by decide, fun _ => ⟨w.heap.size, 0, rfl, hn, hb.lt, fun i hi => ?_⟩⟩
  obtain rfl : i = 0 := by simp at hi; exact hi
  have hB := (Below.refl w.heap.size w).alloc (Nat.le_refl _) (.cells #[u] T)
  exact ⟨u, (hb.cell 0).trans rfl, h.keep hB.size (fun b hf hlt => ⟨hG b hf hlt, fun o => hB.cell (p := ⟨b, o, none⟩) hlt⟩)⟩
set_option linter.unusedSimpArgs false in
set_option maxRecDepth 100000 in
set_option maxHeartbeats 2000000 in
theorem inner_any {F : Nat → Prop} (d : Nd) (v : Value) (w : World) (h : NdX F w d v) :
    Calls Try.prog 39 #[v] w fun e w' => ∃ a cap, e = .returned (.slice a (nkids d).length cap) ∧ NdRw (fun b => F b ∨ w.heap.size ≤ b) w' (nkids d) a cap ∧ Below w.heap.size w w' := by
  obtain ⟨n, h⟩ := h
  cases n with
  | zero => exact h.elim
  | succ n =>
    cases d with
    | empty =>
      rcases h with rfl | rfl
      · go_enter Try.func39, Try.ntmps39
        go_wp2_with fail
        go_ret
        exact ⟨none, 0, rfl, NdRw.nil _ _ _ _ (by decide), Below.refl _ _⟩
      · go_enter Try.func39, Try.ntmps39
        go_wp2_with fail
        go_ret
        exact ⟨none, 0, rfl, NdRw.nil _ _ _ _ (by decide), Below.refl _ _⟩
    | one s =>
      obtain rfl := h
      go_enter Try.func39, Try.ntmps39
      go_wp2_with fail
      go_ret
      exact ⟨none, 0, rfl, NdRw.nil _ _ _ _ (by decide), Below.refl _ _⟩
    | back num =>
      obtain rfl := h
      go_enter Try.func39, Try.ntmps39
      go_wp2_with fail
      go_ret
      exact ⟨none, 0, rfl, NdRw.nil _ _ _ _ (by decide), Below.refl _ _⟩
    | start =>
      obtain rfl := h
      go_enter Try.func39, Try.ntmps39
      go_wp2_with fail
      go_ret
      exact ⟨none, 0, rfl, NdRw.nil _ _ _ _ (by decide), Below.refl _ _⟩
    | fin =>
      obtain rfl := h
      go_enter Try.func39, Try.ntmps39
      go_wp2_with fail
      go_ret
      exact ⟨none, 0, rfl, NdRw.nil _ _ _ _ (by decide), Below.refl _ _⟩
    | cat l =>
      obtain ⟨a, cap, rfl, hx⟩ := h
      have hR : NdRw F w l a cap := NdRw.of (n := n) hx
      clear hx
      go_enter Try.func39, Try.ntmps39
      go_wp2_with fail
      go_ret
      have hB := (Below.refl w.heap.size w).alloc (Nat.le_refl _) (.cells #[.slice a l.length cap] 71)
      exact ⟨a, cap, rfl, hR.keep hB.size (fun b hf hlt => ⟨.inl hf, fun o => hB.cell (p := ⟨b, o, none⟩) hlt⟩), hB⟩
    | alt l =>
      obtain ⟨a, cap, rfl, hx⟩ := h
      have hR : NdRw F w l a cap := NdRw.of (n := n) hx
      clear hx
      go_enter Try.func39, Try.ntmps39
      go_wp2_with fail
      go_ret
      have hB := (Below.refl w.heap.size w).alloc (Nat.le_refl _) (.cells #[.slice a l.length cap] 72)
      exact ⟨a, cap, rfl, hR.keep hB.size (fun b hf hlt => ⟨.inl hf, fun o => hB.cell (p := ⟨b, o, none⟩) hlt⟩), hB⟩
    | rep d mn mx =>
      obtain ⟨u, rfl, hu⟩ := h
      have hX : NdX F w d u := ⟨n, hu⟩
      rcases nd_shape hu with ⟨T, q, rfl⟩ | rfl
      · clear hu
        go_enter Try.func39, Try.ntmps39
        go_wp2_with fail
        go_ret
        have hB := (Below.refl w.heap.size w).alloc (Nat.le_refl _) (.cells #[.iface T q, .int .i64 mn, .int .i64 mx] 57)
        refine ⟨_, _, rfl, ndrw_one (G := fun b => F b ∨ w.heap.size ≤ b) (by simp) (hX.below hB) (fun b hf _ => .inl hf) (.inr hB.size), hB.alloc hB.size _⟩
      · clear hu
        go_enter Try.func39, Try.ntmps39
        go_wp2_with fail
        go_ret
        have hB := (Below.refl w.heap.size w).alloc (Nat.le_refl _) (.cells #[.nilIface, .int .i64 mn, .int .i64 mx] 57)
        refine ⟨_, _, rfl, ndrw_one (G := fun b => F b ∨ w.heap.size ≤ b) (by simp) (hX.below hB) (fun b hf _ => .inl hf) (.inr hB.size), hB.alloc hB.size _⟩
    | group num d =>
      obtain ⟨u, rfl, hu⟩ := h
      have hX : NdX F w d u := ⟨n, hu⟩
      rcases nd_shape hu with ⟨T, q, rfl⟩ | rfl
      · clear hu
        go_enter Try.func39, Try.ntmps39
        go_wp2_with fail
        go_ret
        have hB := (Below.refl w.heap.size w).alloc (Nat.le_refl _) (.cells #[.int .i64 num, .iface T q] 74)
        refine ⟨_, _, rfl, ndrw_one (G := fun b => F b ∨ w.heap.size ≤ b) (by simp) (hX.below hB) (fun b hf _ => .inl hf) (.inr hB.size), hB.alloc hB.size _⟩
      · clear hu
        go_enter Try.func39, Try.ntmps39
        go_wp2_with fail
        go_ret
        have hB := (Below.refl w.heap.size w).alloc (Nat.le_refl _) (.cells #[.int .i64 num, .nilIface] 74)
        refine ⟨_, _, rfl, ndrw_one (G := fun b => F b ∨ w.heap.size ≤ b) (by simp) (hX.below hB) (fun b hf _ => .inl hf) (.inr hB.size), hB.alloc hB.size _⟩
end Go.Proofs.Ytihfenkphhnbcaa
namespace Go.Proofs.Ytihfenkphhnbcaa
open Go Go.RowKit
def StkC (G : Nat → Prop) (W : World) : List (Nd × List Nd) → List Value → Prop
  | [], us => us = []
  | x :: s, us => ∃ v a cap us', us = v :: .slice a x.2.length cap :: us' ∧ NdX G W x.1 v ∧ NdRw G W x.2 a cap ∧ StkC G W s us'
theorem StkC.len {G : Nat → Prop} {W : World} : ∀ {s : List (Nd × List Nd)} {us : List Value}, StkC G W s us → us.length = s.length * 2
  | [], us, h => by rw [show us = [] from h]; rfl
  | x :: s, us, ⟨v, a, cap, us', h, _, _, h4⟩ => by rw [h]; have := StkC.len h4; simp [this]; omega
theorem StkC.keep {F G : Nat → Prop} {W W' : World} (hs : W.heap.size ≤ W'.heap.size) (hF : ∀ b, F b → b < W.heap.size → G b ∧ ∀ o, W'.cell? ⟨b, o, none⟩ = W.cell? ⟨b, o, none⟩) :
    ∀ {s : List (Nd × List Nd)} {us : List Value}, StkC F W s us → StkC G W' s us
  | [], _, h => h
  | _ :: _, _, ⟨v, a, cap, us', h, h2, h3, h4⟩ => ⟨v, a, cap, us', h, h2.keep hs hF, h3.keep hs hF, StkC.keep hs hF h4⟩
theorem StkC.snoc {G : Nat → Prop} {W : World} {d : Nd} {r : List Nd} {v : Value} {a : Option Addr} {cap : Nat} (hd : NdX G W d v) (hr : NdRw G W r a cap) :
    ∀ {s : List (Nd × List Nd)} {us : List Value}, StkC G W s us → StkC G W (s ++ [(d, r)]) (us ++ [v, .slice a r.length cap])
  | [], us, h => by obtain rfl : us = [] := h; exact ⟨v, a, cap, [], rfl, hd, hr, rfl⟩
  | _ :: _, _, ⟨v', a', cap', us', h, h2, h3, h4⟩ => ⟨v', a', cap', _, by rw [h]; rfl, h2, h3, StkC.snoc hd hr h4⟩
theorem StkC.last {G : Nat → Prop} {W : World} {d : Nd} {r : List Nd} :
    ∀ {s : List (Nd × List Nd)} {us : List Value}, StkC G W (s ++ [(d, r)]) us → ∃ us' v a cap, us = us' ++ [v, .slice a r.length cap] ∧ NdX G W d v ∧ NdRw G W r a cap ∧ StkC G W s us'
  | [], us, ⟨v, a, cap, us', h, h2, h3, h4⟩ => by obtain rfl : us' = [] := h4; exact ⟨[], v, a, cap, h, h2, h3, rfl⟩
  | x :: s, us, ⟨v', a', cap', us', h, h2, h3, h4⟩ => by
    obtain ⟨us2, v, a, cap, e, g2, g3, g4⟩ := StkC.last h4
    exact ⟨v' :: .slice a' x.2.length cap' :: us2, v, a, cap, by rw [h, e]; rfl, g2, g3, v', a', cap', us2, rfl, h2, h3, g4⟩
def Lies (n₀ base : Nat) (C : Nat → Prop) (S : Nat) (sv : Value) (b : Nat) : Prop := b < n₀ ∨ (base ≤ b ∧ ¬ C b ∧ b ≠ S ∧ sv.ownBlock ≠ some b)
theorem ndx_lies {n₀ base : Nat} {C : Nat → Prop} {S : Nat} {sv : Value} {W : World} {d : Nd} {v : Value} (h : NdX (Lies n₀ base C S sv) W d v) : NdX (fun k => k < n₀ ∨ (base ≤ k ∧ ¬ C k)) W d v :=
  h.keep (Nat.le_refl _) (fun _ hb _ => ⟨Or.elim hb .inl (fun h => .inr ⟨h.1, h.2.1⟩), fun _ => rfl⟩)
structure Stk (n₀ base S Y l : Nat) (C : Nat → Prop) (W : World) (s : List (Nd × List Nd)) (sv : Value) (us : List Value) : Prop where
  box : Boxed W S 103 sv
  yld : Boxed W Y 102 (.func (.yield l) #[] #[])
  bS : base ≤ S
  bY : base ≤ Y
  bn : n₀ ≤ base
  cS : ¬ C S
  cY : ¬ C Y
  cC : ∀ k, C k → base ≤ k
  row : W.ownsRow base 106 2 sv s.length us
  cR : ∀ g, sv.ownBlock = some g → ¬ C g
  cells : StkC (Lies n₀ base C S sv) W s us
theorem Boxed.ne_of {W : World} {A B : Nat} {t u : TypeId} {v x : Value} (h : Boxed W A t v) (k : Boxed W B u x) (htu : t ≠ u) : A ≠ B := by
  intro e
  subst e
  have := (show W.heap[A]? = _ from h).symm.trans k
  simp at this
  exact htu this.2
theorem Boxed.same {W W' : World} {B : Nat} {t : TypeId} {v : Value} (h : Boxed W B t v) (k : W'.heap[B]? = W.heap[B]?) : Boxed W' B t v := k.trans h
theorem Stk.lS {n₀ base S Y l : Nat} {C : Nat → Prop} {W : World} {s : List (Nd × List Nd)} {sv : Value} {us : List Value} (h : Stk n₀ base S Y l C W s sv us) : S < W.heap.size := h.box.lt
theorem Stk.neSY {n₀ base S Y l : Nat} {C : Nat → Prop} {W : World} {s : List (Nd × List Nd)} {sv : Value} {us : List Value} (h : Stk n₀ base S Y l C W s sv us) : S ≠ Y := Boxed.ne_of h.box h.yld (by decide)
theorem Stk.nr {n₀ base S Y l : Nat} {C : Nat → Prop} {W : World} {s : List (Nd × List Nd)} {sv : Value} {us : List Value} (h : Stk n₀ base S Y l C W s sv us) : ∀ g, sv.ownBlock = some g → base ≤ g ∧ g < W.heap.size ∧ g ≠ S ∧ g ≠ Y ∧ ¬ C g := fun g hg =>
  ⟨(h.row.lt g hg).1, (h.row.lt g hg).2, fun e => Boxed.not_row h.box (by decide) h.row (by rw [hg, e]), fun e => Boxed.not_row h.yld (by decide) h.row (by rw [hg, e]), h.cR g hg⟩
theorem own_row_same {w w' : World} {base : Nat} {e : TypeId} {size : Nat} {v : Value} {n : Nat} {xs : List Value} (h : w.ownsRow base e size v n xs) (hb : ∀ g, v.ownBlock = some g → w'.heap[g]? = w.heap[g]?) : w'.ownsRow base e size v n xs := by
  obtain ⟨h1, h2⟩ := h
  refine ⟨h1, ?_⟩
  rcases h2 with h2 | ⟨g, cap, cur, rfl, b, c, d⟩
  · exact .inl h2
  · exact .inr ⟨g, cap, cur, rfl, b, (hb g rfl).trans c, d⟩
theorem row_cap {w : World} {base : Nat} {e : TypeId} {size g n cap m : Nat} {xs : List Value} (h : w.ownsRow base e size (.slice (some ⟨g, 0, none⟩) n cap) m xs) : n ≤ cap := by
  rcases h.2 with ⟨e, _⟩ | ⟨g5, cap5, cur5, e, _, _, h5, _⟩
  · cases e
  · simp only [Value.slice.injEq] at e
    omega
theorem stk_apart {n₀ base S Y l : Nat} {C : Nat → Prop} {W : World} {s : List (Nd × List Nd)} {g n cap : Nat} {us : List Value} (h : Stk n₀ base S Y l C W s (.slice (some ⟨g, 0, none⟩) n cap) us) {k : Nat} (hk : Lies n₀ base C S (.slice (some ⟨g, 0, none⟩) n cap) k) : k ≠ g := by
  rcases hk with h1 | h1
  · have := h.bn
    have := (h.nr g rfl).1
    omega
  · intro e
    exact h1.2.2.2 (congrArg some e.symm)
theorem Stk.round {n₀ base S Y l : Nat} {C C' : Nat → Prop} {W W' : World} {s : List (Nd × List Nd)} {sv : Value} {us : List Value} (h : Stk n₀ base S Y l C W s sv us) (hr : Rdn n₀ base C C' W W') (hC : ∀ k, C' k → base ≤ k) : Stk n₀ base S Y l C' W' s sv us := by
  have hnew : ∀ b, b < W.heap.size → ¬ C b → ¬ C' b := fun b hb hc hc' => (hr.new b hc').elim hc (fun h => by omega)
  refine ⟨Boxed.same h.box (hr.block _ h.box.lt (.inr ⟨h.bS, h.cS⟩)), Boxed.same h.yld (hr.block _ h.yld.lt (.inr ⟨h.bY, h.cY⟩)), h.bS, h.bY, h.bn, hnew _ h.box.lt h.cS, hnew _ h.yld.lt h.cY, hC,
    own_row_same h.row (fun g hg => hr.block _ (h.nr g hg).2.1 (.inr ⟨(h.nr g hg).1, (h.nr g hg).2.2.2.2⟩)), fun g hg => hnew g (h.nr g hg).2.1 (h.nr g hg).2.2.2.2, ?_⟩
  refine h.cells.keep hr.size (fun b hf hb => ⟨?_, fun o => World.cell?_of_block (w := W) (a := ⟨b, o, none⟩) (hr.block b hb ?_)⟩)
  · rcases hf with hf | ⟨h1, h2, h3, h4⟩
    · exact .inl hf
    · exact .inr ⟨h1, hnew b hb h2, h3, h4⟩
  · rcases hf with hf | ⟨h1, h2, h3, h4⟩
    · exact .inl hf
    · exact .inr ⟨h1, h2⟩
theorem Stk.below {n₀ base S Y l : Nat} {C : Nat → Prop} {W W' : World} {s : List (Nd × List Nd)} {sv : Value} {us : List Value} (h : Stk n₀ base S Y l C W s sv us) (hb : Below W.heap.size W W') : Stk n₀ base S Y l C W' s sv us :=
  h.round ⟨hb.size, fun k hk _ => hb.block k hk, fun _ hk => .inl hk⟩ h.cC
theorem lies_push {n₀ base S : Nat} {C : Nat → Prop} {W : World} {sv v' : Value} {b : Nat} (hb : Lies n₀ base C S sv b) (hlt : b < W.heap.size) (hat : v'.ownBlock = sv.ownBlock ∨ v'.ownBlock = some W.heap.size) : Lies n₀ base C S v' b := by
  rcases hb with hb | ⟨h1, h2, h3, h4⟩
  · exact .inl hb
  · refine .inr ⟨h1, h2, h3, ?_⟩
    rcases hat with e | e
    · rw [e]; exact h4
    · rw [e]; intro e2; injection e2 with e2; omega
theorem Stk.push {n₀ base S Y l : Nat} {C : Nat → Prop} {W w2 w3 : World} {s : List (Nd × List Nd)} {sv v' v : Value} {us : List Value} {d : Nd} {r : List Nd} {a : Option Addr} {cap : Nat}
    (h : Stk n₀ base S Y l C W s sv us) (hb : Below W.heap.size W w2) (hd : NdX (Lies n₀ base C S sv) W d v) (hr : NdRw (fun b => Lies n₀ base C S sv b ∨ W.heap.size ≤ b) w2 r a cap) (hC : ∀ k, C k → k < W.heap.size)
    (hown : w3.ownsRow base 106 2 v' (s.length + 1) (us ++ [v, .slice a r.length cap])) (hg : w2.grownBy w3 sv.ownBlock) (hat : v'.ownBlock = sv.ownBlock ∨ v'.ownBlock = some w2.heap.size) :
    Boxed w3 S 103 sv ∧ Stk n₀ base S Y l C (w3.setCell ⟨S, 0, none⟩ v') (s ++ [(d, r)]) v' (us ++ [v, .slice a r.length cap]) ∧ Other base C W (w3.setCell ⟨S, 0, none⟩ v') ∧ NdX (Lies n₀ base C S v') (w3.setCell ⟨S, 0, none⟩ v') d v := by
  have h2 := h.below hb
  have hS3 : Boxed w3 S 103 sv := h2.box.kept hg (fun e => (h2.nr S e.symm).2.2.1 rfl)
  have hY3 : Boxed w3 Y 102 (.func (.yield l) #[] #[]) := h2.yld.kept hg (fun e => (h2.nr Y e.symm).2.2.2.1 rfl)
  have hbs : base ≤ w2.heap.size := Nat.le_of_lt (Nat.lt_of_le_of_lt h2.bS h2.box.lt)
  have hlt3 := hown.lt
  have hCv : ∀ g, v'.ownBlock = some g → ¬ C g := fun g hg' hc => by
    rcases hat with e | e
    · rw [e] at hg'; exact h2.cR g hg' hc
    · rw [e] at hg'; injection hg' with hg'; have := hC g hc; have := hb.size; omega
  have hnS : ∀ g, v'.ownBlock = some g → g ≠ S ∧ g ≠ Y := fun g hg' => by
    rcases hat with e | e
    · rw [e] at hg'; exact ⟨(h2.nr g hg').2.2.1, (h2.nr g hg').2.2.2.1⟩
    · rw [e] at hg'; injection hg' with hg'; have := h2.box.lt; have := h2.yld.lt; omega
  have hblk : ∀ k, k < w2.heap.size → sv.ownBlock ≠ some k → k ≠ S → (w3.setCell ⟨S, 0, none⟩ v').heap[k]? = w2.heap[k]? := fun k hk h1 h3 =>
    (Below.heap_setCell _ _ _ _ h3).trans (hg.block k hk (fun e => h1 e.symm))
  have hsz : w2.heap.size ≤ (w3.setCell ⟨S, 0, none⟩ v').heap.size := by have := hg.size; simpa [World.setCell] using this
  have hkeep : ∀ b, Lies n₀ base C S sv b ∨ (W.heap.size ≤ b ∧ b < w2.heap.size) → b < w2.heap.size → Lies n₀ base C S v' b ∧ ∀ o, (w3.setCell ⟨S, 0, none⟩ v').cell? ⟨b, o, none⟩ = w2.cell? ⟨b, o, none⟩ := by
    intro b hf hlt
    have hf2 : Lies n₀ base C S sv b := by
      rcases hf with hf | ⟨hf, _⟩
      · exact hf
      · refine .inr ⟨by have := h.bS; have := h.box.lt; omega, fun hc => by have := hC b hc; omega, fun e => by have := h.box.lt; omega, fun e => by have := (h.nr b e).2.1; omega⟩
    refine ⟨lies_push hf2 hlt hat, fun o => World.cell?_of_block (w := w2) (a := ⟨b, o, none⟩) (hblk b hlt ?_ ?_)⟩
    · rcases hf2 with h1 | h1
      · intro e; have := (h2.nr b e).1; have := h.bn; omega
      · exact h1.2.2.2
    · rcases hf2 with h1 | h1
      · have := h.bn; have := h.bS; omega
      · exact h1.2.2.1
  refine ⟨hS3, ⟨hS3.set v', ?_, h.bS, h.bY, h.bn, h.cS, h.cY, h.cC, ?_, hCv, ?_⟩, ?_⟩
  · exact Boxed.same hY3 (Below.heap_setCell _ _ _ _ (Ne.symm h.neSY))
  · rw [List.length_append]
    exact own_row_same hown (fun g hg' => Below.heap_setCell _ _ _ _ (hnS g hg').1)
  · refine StkC.snoc ?_ ?_ ?_
    · exact (hd.below hb).keep hsz (fun b hf hlt => hkeep b (.inl hf) hlt)
    · exact hr.keep hsz (fun b hf hlt => hkeep b (hf.elim .inl (fun h => .inr ⟨h, hlt⟩)) hlt)
    · exact h2.cells.keep hsz (fun b hf hlt => hkeep b (.inl hf) hlt)
  · exact ⟨(((Other.of_below hb).trans (Other.refl base C w2)).grown hg (fun k hk => ⟨(h2.nr k hk).1, (h2.nr k hk).2.2.2.2⟩)).setCell (p := ⟨S, 0, none⟩) h.bS h.cS v', (hd.below hb).keep hsz (fun b hf hlt => hkeep b (.inl hf) hlt)⟩
theorem Stk.top {n₀ base S Y l : Nat} {C : Nat → Prop} {W : World} {s : List (Nd × List Nd)} {sv : Value} {us : List Value} {d : Nd} {r : List Nd} (h : Stk n₀ base S Y l C W (s ++ [(d, r)]) sv us) :
    ∃ g cap us' v a cap', sv = .slice (some ⟨g, 0, none⟩) (s.length + 1) cap ∧ us = us' ++ [v, .slice a r.length cap'] ∧ us'.length = s.length * 2 ∧ W.cell? ⟨g, s.length * 2, none⟩ = some v ∧ W.cell? ⟨g, s.length * 2 + 1, none⟩ = some (.slice a r.length cap') ∧ W.frozen? ⟨g, s.length * 2 + 1, none⟩ = false ∧
      NdX (Lies n₀ base C S sv) W d v ∧ NdRw (Lies n₀ base C S sv) W r a cap' := by
  have hrow := h.row
  rw [List.length_append] at hrow
  obtain ⟨g, cap, rfl⟩ := ownsRow_succ hrow
  obtain ⟨us', v, a, cap', rfl, h1, h2, h3⟩ := h.cells.last
  have hl := h3.len
  refine ⟨g, cap, us', v, a, cap', rfl, rfl, hl, ?_, ?_, hrow.frozenAt _, h1, h2⟩
  · rw [hrow.cellAt (s.length * 2) (show s.length * 2 < (s.length + 1) * 2 by omega), ← hl, List.getElem?_append_right (Nat.le_refl _)]
    simp
  · rw [hrow.cellAt (s.length * 2 + 1) (show s.length * 2 + 1 < (s.length + 1) * 2 by omega), ← hl, List.getElem?_append_right (by omega)]
    rw [show us'.length + 1 - us'.length = 1 by omega]
    rfl
theorem Stk.pop {n₀ base S Y l : Nat} {C : Nat → Prop} {W : World} {s : List (Nd × List Nd)} {g cap : Nat} {us : List Value} {d : Nd} {r : List Nd} (h : Stk n₀ base S Y l C W (s ++ [(d, r)]) (.slice (some ⟨g, 0, none⟩) (s.length + 1) cap) us) :
    ∃ us', Stk n₀ base S Y l C (W.setCell ⟨S, 0, none⟩ (.slice (some ⟨g, 0, none⟩) s.length cap)) s (.slice (some ⟨g, 0, none⟩) s.length cap) us' ∧ Other base C W (W.setCell ⟨S, 0, none⟩ (.slice (some ⟨g, 0, none⟩) s.length cap)) := by
  have hrow := h.row
  rw [List.length_append] at hrow
  obtain ⟨us', v, a, cap', rfl, h1, h2, h3⟩ := h.cells.last
  have hp := ownsRow_pop h3.len hrow
  have hng := h.nr g rfl
  refine ⟨us', ⟨h.box.set _, ?_, h.bS, h.bY, h.bn, h.cS, h.cY, h.cC, ?_, fun g' hg' => h.cR g' hg', ?_⟩, (Other.refl base C W).setCell (p := ⟨S, 0, none⟩) h.bS h.cS _⟩
  · exact Boxed.same h.yld (Below.heap_setCell _ _ _ _ (Ne.symm h.neSY))
  · exact own_row_same hp (fun g' hg' => Below.heap_setCell _ _ _ _ (by simp [Value.ownBlock] at hg'; subst hg'; exact hng.2.2.1))
  · refine h3.keep (by simp [World.setCell]) (fun b hf hlt => ⟨hf, fun o => World.cell?_of_block (w := W) (a := ⟨b, o, none⟩) (Below.heap_setCell _ _ _ _ ?_)⟩)
    rcases hf with h1 | h1
    · have := h.bn; have := h.bS; simp; omega
    · exact h1.2.2.1
theorem Stk.shift {n₀ base S Y l : Nat} {C : Nat → Prop} {W : World} {s : List (Nd × List Nd)} {g cap cap' : Nat} {a : Option Addr} {us : List Value} {d : Nd} {r r' : List Nd} (h : Stk n₀ base S Y l C W (s ++ [(d, r)]) (.slice (some ⟨g, 0, none⟩) (s.length + 1) cap) us)
    (hr : NdRw (Lies n₀ base C S (.slice (some ⟨g, 0, none⟩) (s.length + 1) cap)) W r' a cap') :
    ∃ us', Stk n₀ base S Y l C (W.setCell ⟨g, s.length * 2 + 1, none⟩ (.slice a r'.length cap')) (s ++ [(d, r')]) (.slice (some ⟨g, 0, none⟩) (s.length + 1) cap) us' ∧ Other base C W (W.setCell ⟨g, s.length * 2 + 1, none⟩ (.slice a r'.length cap')) := by
  have hrow := h.row
  rw [List.length_append] at hrow
  obtain ⟨us', v, a2, cap2, rfl, h1, h2, h3⟩ := h.cells.last
  have hl := h3.len
  have hng := h.nr g rfl
  have hst := (hrow.stored (s.length * 2 + 1) (.slice a r'.length cap')).1
  rw [← hl, List.set_append_right _ _ (by omega)] at hst
  simp at hst
  rw [hl] at hst
  have hk : ∀ b, Lies n₀ base C S (.slice (some ⟨g, 0, none⟩) (s.length + 1) cap) b → b < W.heap.size → Lies n₀ base C S (.slice (some ⟨g, 0, none⟩) (s.length + 1) cap) b ∧ ∀ o, (W.setCell ⟨g, s.length * 2 + 1, none⟩ (.slice a r'.length cap')).cell? ⟨b, o, none⟩ = W.cell? ⟨b, o, none⟩ := fun b hf hlt =>
    ⟨hf, fun o => World.cell?_of_block (w := W) (a := ⟨b, o, none⟩) (Below.heap_setCell _ _ _ _ (by
      rcases hf with h1 | h1
      · have := h.bn; simp; omega
      · intro e; exact h1.2.2.2 (congrArg some e.symm)))⟩
  have hsz : W.heap.size ≤ (W.setCell ⟨g, s.length * 2 + 1, none⟩ (.slice a r'.length cap')).heap.size := by simp [World.setCell]
  refine ⟨us' ++ [v, .slice a r'.length cap'], ⟨?_, ?_, h.bS, h.bY, h.bn, h.cS, h.cY, h.cC, ?_, fun g' hg' => h.cR g' hg', ?_⟩, (Other.refl base C W).setCell (p := ⟨g, _, none⟩) hng.1 hng.2.2.2.2 _⟩
  · exact Boxed.same h.box (Below.heap_setCell _ _ _ _ (Ne.symm hng.2.2.1))
  · exact Boxed.same h.yld (Below.heap_setCell _ _ _ _ (Ne.symm hng.2.2.2.1))
  · rw [List.length_append]
    exact hst
  · exact StkC.snoc (h1.keep hsz hk) (hr.keep hsz hk) (h3.keep hsz hk)
end Go.Proofs.Ytihfenkphhnbcaa
