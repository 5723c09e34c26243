/- Which type a node is of: each assertion's answer. -/
import Derived.Test.YtjjhkagpoicimaaNdAo
namespace Go.Proofs.Ytjjhkagpoicimaa
open Go.RowKit

@[go_sem] theorem ta_Empty_Empty (p : Value) (w : World) : (Instr.typeAssert (.iface 80 p) 37 80 true).run Try.prog w = .ok (.tuple #[p, .bool true]) w := by kernel_rfl
@[go_sem] theorem ta_Empty_One (p : Value) (w : World) : (Instr.typeAssert (.iface 80 p) 37 55 true).run Try.prog w = .ok (.tuple #[.agg #[.int .u64 0, .int .u64 0, .int .u64 0, .int .u64 0], .bool false]) w := by kernel_rfl
@[go_sem] theorem ta_Empty_Cat (p : Value) (w : World) : (Instr.typeAssert (.iface 80 p) 37 71 true).run Try.prog w = .ok (.tuple #[.agg #[.slice none 0 0], .bool false]) w := by kernel_rfl
@[go_sem] theorem ta_Empty_Alt (p : Value) (w : World) : (Instr.typeAssert (.iface 80 p) 37 72 true).run Try.prog w = .ok (.tuple #[.agg #[.slice none 0 0], .bool false]) w := by kernel_rfl
@[go_sem] theorem ta_Empty_Rep (p : Value) (w : World) : (Instr.typeAssert (.iface 80 p) 37 57 true).run Try.prog w = .ok (.tuple #[.agg #[.nilIface, .int .i64 0, .int .i64 0], .bool false]) w := by kernel_rfl
@[go_sem] theorem ta_Empty_Group (p : Value) (w : World) : (Instr.typeAssert (.iface 80 p) 37 74 true).run Try.prog w = .ok (.tuple #[.agg #[.int .i64 0, .nilIface], .bool false]) w := by kernel_rfl
@[go_sem] theorem ta_Empty_Back (p : Value) (w : World) : (Instr.typeAssert (.iface 80 p) 37 76 true).run Try.prog w = .ok (.tuple #[.agg #[.int .i64 0], .bool false]) w := by kernel_rfl
@[go_sem] theorem ta_Empty_Start (p : Value) (w : World) : (Instr.typeAssert (.iface 80 p) 37 78 true).run Try.prog w = .ok (.tuple #[.agg #[], .bool false]) w := by kernel_rfl
@[go_sem] theorem ta_Empty_End (p : Value) (w : World) : (Instr.typeAssert (.iface 80 p) 37 79 true).run Try.prog w = .ok (.tuple #[.agg #[], .bool false]) w := by kernel_rfl
@[go_sem] theorem ta_One_Empty (p : Value) (w : World) : (Instr.typeAssert (.iface 55 p) 37 80 true).run Try.prog w = .ok (.tuple #[.agg #[], .bool false]) w := by kernel_rfl
@[go_sem] theorem ta_One_One (p : Value) (w : World) : (Instr.typeAssert (.iface 55 p) 37 55 true).run Try.prog w = .ok (.tuple #[p, .bool true]) w := by kernel_rfl
@[go_sem] theorem ta_One_Cat (p : Value) (w : World) : (Instr.typeAssert (.iface 55 p) 37 71 true).run Try.prog w = .ok (.tuple #[.agg #[.slice none 0 0], .bool false]) w := by kernel_rfl
@[go_sem] theorem ta_One_Alt (p : Value) (w : World) : (Instr.typeAssert (.iface 55 p) 37 72 true).run Try.prog w = .ok (.tuple #[.agg #[.slice none 0 0], .bool false]) w := by kernel_rfl
@[go_sem] theorem ta_One_Rep (p : Value) (w : World) : (Instr.typeAssert (.iface 55 p) 37 57 true).run Try.prog w = .ok (.tuple #[.agg #[.nilIface, .int .i64 0, .int .i64 0], .bool false]) w := by kernel_rfl
@[go_sem] theorem ta_One_Group (p : Value) (w : World) : (Instr.typeAssert (.iface 55 p) 37 74 true).run Try.prog w = .ok (.tuple #[.agg #[.int .i64 0, .nilIface], .bool false]) w := by kernel_rfl
@[go_sem] theorem ta_One_Back (p : Value) (w : World) : (Instr.typeAssert (.iface 55 p) 37 76 true).run Try.prog w = .ok (.tuple #[.agg #[.int .i64 0], .bool false]) w := by kernel_rfl
@[go_sem] theorem ta_One_Start (p : Value) (w : World) : (Instr.typeAssert (.iface 55 p) 37 78 true).run Try.prog w = .ok (.tuple #[.agg #[], .bool false]) w := by kernel_rfl
@[go_sem] theorem ta_One_End (p : Value) (w : World) : (Instr.typeAssert (.iface 55 p) 37 79 true).run Try.prog w = .ok (.tuple #[.agg #[], .bool false]) w := by kernel_rfl
@[go_sem] theorem ta_Cat_Empty (p : Value) (w : World) : (Instr.typeAssert (.iface 71 p) 37 80 true).run Try.prog w = .ok (.tuple #[.agg #[], .bool false]) w := by kernel_rfl
@[go_sem] theorem ta_Cat_One (p : Value) (w : World) : (Instr.typeAssert (.iface 71 p) 37 55 true).run Try.prog w = .ok (.tuple #[.agg #[.int .u64 0, .int .u64 0, .int .u64 0, .int .u64 0], .bool false]) w := by kernel_rfl
@[go_sem] theorem ta_Cat_Cat (p : Value) (w : World) : (Instr.typeAssert (.iface 71 p) 37 71 true).run Try.prog w = .ok (.tuple #[p, .bool true]) w := by kernel_rfl
@[go_sem] theorem ta_Cat_Alt (p : Value) (w : World) : (Instr.typeAssert (.iface 71 p) 37 72 true).run Try.prog w = .ok (.tuple #[.agg #[.slice none 0 0], .bool false]) w := by kernel_rfl
@[go_sem] theorem ta_Cat_Rep (p : Value) (w : World) : (Instr.typeAssert (.iface 71 p) 37 57 true).run Try.prog w = .ok (.tuple #[.agg #[.nilIface, .int .i64 0, .int .i64 0], .bool false]) w := by kernel_rfl
@[go_sem] theorem ta_Cat_Group (p : Value) (w : World) : (Instr.typeAssert (.iface 71 p) 37 74 true).run Try.prog w = .ok (.tuple #[.agg #[.int .i64 0, .nilIface], .bool false]) w := by kernel_rfl
@[go_sem] theorem ta_Cat_Back (p : Value) (w : World) : (Instr.typeAssert (.iface 71 p) 37 76 true).run Try.prog w = .ok (.tuple #[.agg #[.int .i64 0], .bool false]) w := by kernel_rfl
@[go_sem] theorem ta_Cat_Start (p : Value) (w : World) : (Instr.typeAssert (.iface 71 p) 37 78 true).run Try.prog w = .ok (.tuple #[.agg #[], .bool false]) w := by kernel_rfl
@[go_sem] theorem ta_Cat_End (p : Value) (w : World) : (Instr.typeAssert (.iface 71 p) 37 79 true).run Try.prog w = .ok (.tuple #[.agg #[], .bool false]) w := by kernel_rfl
@[go_sem] theorem ta_Alt_Empty (p : Value) (w : World) : (Instr.typeAssert (.iface 72 p) 37 80 true).run Try.prog w = .ok (.tuple #[.agg #[], .bool false]) w := by kernel_rfl
@[go_sem] theorem ta_Alt_One (p : Value) (w : World) : (Instr.typeAssert (.iface 72 p) 37 55 true).run Try.prog w = .ok (.tuple #[.agg #[.int .u64 0, .int .u64 0, .int .u64 0, .int .u64 0], .bool false]) w := by kernel_rfl
@[go_sem] theorem ta_Alt_Cat (p : Value) (w : World) : (Instr.typeAssert (.iface 72 p) 37 71 true).run Try.prog w = .ok (.tuple #[.agg #[.slice none 0 0], .bool false]) w := by kernel_rfl
@[go_sem] theorem ta_Alt_Alt (p : Value) (w : World) : (Instr.typeAssert (.iface 72 p) 37 72 true).run Try.prog w = .ok (.tuple #[p, .bool true]) w := by kernel_rfl
@[go_sem] theorem ta_Alt_Rep (p : Value) (w : World) : (Instr.typeAssert (.iface 72 p) 37 57 true).run Try.prog w = .ok (.tuple #[.agg #[.nilIface, .int .i64 0, .int .i64 0], .bool false]) w := by kernel_rfl
@[go_sem] theorem ta_Alt_Group (p : Value) (w : World) : (Instr.typeAssert (.iface 72 p) 37 74 true).run Try.prog w = .ok (.tuple #[.agg #[.int .i64 0, .nilIface], .bool false]) w := by kernel_rfl
@[go_sem] theorem ta_Alt_Back (p : Value) (w : World) : (Instr.typeAssert (.iface 72 p) 37 76 true).run Try.prog w = .ok (.tuple #[.agg #[.int .i64 0], .bool false]) w := by kernel_rfl
@[go_sem] theorem ta_Alt_Start (p : Value) (w : World) : (Instr.typeAssert (.iface 72 p) 37 78 true).run Try.prog w = .ok (.tuple #[.agg #[], .bool false]) w := by kernel_rfl
@[go_sem] theorem ta_Alt_End (p : Value) (w : World) : (Instr.typeAssert (.iface 72 p) 37 79 true).run Try.prog w = .ok (.tuple #[.agg #[], .bool false]) w := by kernel_rfl
@[go_sem] theorem ta_Rep_Empty (p : Value) (w : World) : (Instr.typeAssert (.iface 57 p) 37 80 true).run Try.prog w = .ok (.tuple #[.agg #[], .bool false]) w := by kernel_rfl
@[go_sem] theorem ta_Rep_One (p : Value) (w : World) : (Instr.typeAssert (.iface 57 p) 37 55 true).run Try.prog w = .ok (.tuple #[.agg #[.int .u64 0, .int .u64 0, .int .u64 0, .int .u64 0], .bool false]) w := by kernel_rfl
@[go_sem] theorem ta_Rep_Cat (p : Value) (w : World) : (Instr.typeAssert (.iface 57 p) 37 71 true).run Try.prog w = .ok (.tuple #[.agg #[.slice none 0 0], .bool false]) w := by kernel_rfl
@[go_sem] theorem ta_Rep_Alt (p : Value) (w : World) : (Instr.typeAssert (.iface 57 p) 37 72 true).run Try.prog w = .ok (.tuple #[.agg #[.slice none 0 0], .bool false]) w := by kernel_rfl
@[go_sem] theorem ta_Rep_Rep (p : Value) (w : World) : (Instr.typeAssert (.iface 57 p) 37 57 true).run Try.prog w = .ok (.tuple #[p, .bool true]) w := by kernel_rfl
@[go_sem] theorem ta_Rep_Group (p : Value) (w : World) : (Instr.typeAssert (.iface 57 p) 37 74 true).run Try.prog w = .ok (.tuple #[.agg #[.int .i64 0, .nilIface], .bool false]) w := by kernel_rfl
@[go_sem] theorem ta_Rep_Back (p : Value) (w : World) : (Instr.typeAssert (.iface 57 p) 37 76 true).run Try.prog w = .ok (.tuple #[.agg #[.int .i64 0], .bool false]) w := by kernel_rfl
@[go_sem] theorem ta_Rep_Start (p : Value) (w : World) : (Instr.typeAssert (.iface 57 p) 37 78 true).run Try.prog w = .ok (.tuple #[.agg #[], .bool false]) w := by kernel_rfl
@[go_sem] theorem ta_Rep_End (p : Value) (w : World) : (Instr.typeAssert (.iface 57 p) 37 79 true).run Try.prog w = .ok (.tuple #[.agg #[], .bool false]) w := by kernel_rfl
@[go_sem] theorem ta_Group_Empty (p : Value) (w : World) : (Instr.typeAssert (.iface 74 p) 37 80 true).run Try.prog w = .ok (.tuple #[.agg #[], .bool false]) w := by kernel_rfl
@[go_sem] theorem ta_Group_One (p : Value) (w : World) : (Instr.typeAssert (.iface 74 p) 37 55 true).run Try.prog w = .ok (.tuple #[.agg #[.int .u64 0, .int .u64 0, .int .u64 0, .int .u64 0], .bool false]) w := by kernel_rfl
@[go_sem] theorem ta_Group_Cat (p : Value) (w : World) : (Instr.typeAssert (.iface 74 p) 37 71 true).run Try.prog w = .ok (.tuple #[.agg #[.slice none 0 0], .bool false]) w := by kernel_rfl
@[go_sem] theorem ta_Group_Alt (p : Value) (w : World) : (Instr.typeAssert (.iface 74 p) 37 72 true).run Try.prog w = .ok (.tuple #[.agg #[.slice none 0 0], .bool false]) w := by kernel_rfl
@[go_sem] theorem ta_Group_Rep (p : Value) (w : World) : (Instr.typeAssert (.iface 74 p) 37 57 true).run Try.prog w = .ok (.tuple #[.agg #[.nilIface, .int .i64 0, .int .i64 0], .bool false]) w := by kernel_rfl
@[go_sem] theorem ta_Group_Group (p : Value) (w : World) : (Instr.typeAssert (.iface 74 p) 37 74 true).run Try.prog w = .ok (.tuple #[p, .bool true]) w := by kernel_rfl
@[go_sem] theorem ta_Group_Back (p : Value) (w : World) : (Instr.typeAssert (.iface 74 p) 37 76 true).run Try.prog w = .ok (.tuple #[.agg #[.int .i64 0], .bool false]) w := by kernel_rfl
@[go_sem] theorem ta_Group_Start (p : Value) (w : World) : (Instr.typeAssert (.iface 74 p) 37 78 true).run Try.prog w = .ok (.tuple #[.agg #[], .bool false]) w := by kernel_rfl
@[go_sem] theorem ta_Group_End (p : Value) (w : World) : (Instr.typeAssert (.iface 74 p) 37 79 true).run Try.prog w = .ok (.tuple #[.agg #[], .bool false]) w := by kernel_rfl
@[go_sem] theorem ta_Back_Empty (p : Value) (w : World) : (Instr.typeAssert (.iface 76 p) 37 80 true).run Try.prog w = .ok (.tuple #[.agg #[], .bool false]) w := by kernel_rfl
@[go_sem] theorem ta_Back_One (p : Value) (w : World) : (Instr.typeAssert (.iface 76 p) 37 55 true).run Try.prog w = .ok (.tuple #[.agg #[.int .u64 0, .int .u64 0, .int .u64 0, .int .u64 0], .bool false]) w := by kernel_rfl
@[go_sem] theorem ta_Back_Cat (p : Value) (w : World) : (Instr.typeAssert (.iface 76 p) 37 71 true).run Try.prog w = .ok (.tuple #[.agg #[.slice none 0 0], .bool false]) w := by kernel_rfl
@[go_sem] theorem ta_Back_Alt (p : Value) (w : World) : (Instr.typeAssert (.iface 76 p) 37 72 true).run Try.prog w = .ok (.tuple #[.agg #[.slice none 0 0], .bool false]) w := by kernel_rfl
@[go_sem] theorem ta_Back_Rep (p : Value) (w : World) : (Instr.typeAssert (.iface 76 p) 37 57 true).run Try.prog w = .ok (.tuple #[.agg #[.nilIface, .int .i64 0, .int .i64 0], .bool false]) w := by kernel_rfl
@[go_sem] theorem ta_Back_Group (p : Value) (w : World) : (Instr.typeAssert (.iface 76 p) 37 74 true).run Try.prog w = .ok (.tuple #[.agg #[.int .i64 0, .nilIface], .bool false]) w := by kernel_rfl
@[go_sem] theorem ta_Back_Back (p : Value) (w : World) : (Instr.typeAssert (.iface 76 p) 37 76 true).run Try.prog w = .ok (.tuple #[p, .bool true]) w := by kernel_rfl
@[go_sem] theorem ta_Back_Start (p : Value) (w : World) : (Instr.typeAssert (.iface 76 p) 37 78 true).run Try.prog w = .ok (.tuple #[.agg #[], .bool false]) w := by kernel_rfl
@[go_sem] theorem ta_Back_End (p : Value) (w : World) : (Instr.typeAssert (.iface 76 p) 37 79 true).run Try.prog w = .ok (.tuple #[.agg #[], .bool false]) w := by kernel_rfl
@[go_sem] theorem ta_Start_Empty (p : Value) (w : World) : (Instr.typeAssert (.iface 78 p) 37 80 true).run Try.prog w = .ok (.tuple #[.agg #[], .bool false]) w := by kernel_rfl
@[go_sem] theorem ta_Start_One (p : Value) (w : World) : (Instr.typeAssert (.iface 78 p) 37 55 true).run Try.prog w = .ok (.tuple #[.agg #[.int .u64 0, .int .u64 0, .int .u64 0, .int .u64 0], .bool false]) w := by kernel_rfl
@[go_sem] theorem ta_Start_Cat (p : Value) (w : World) : (Instr.typeAssert (.iface 78 p) 37 71 true).run Try.prog w = .ok (.tuple #[.agg #[.slice none 0 0], .bool false]) w := by kernel_rfl
@[go_sem] theorem ta_Start_Alt (p : Value) (w : World) : (Instr.typeAssert (.iface 78 p) 37 72 true).run Try.prog w = .ok (.tuple #[.agg #[.slice none 0 0], .bool false]) w := by kernel_rfl
@[go_sem] theorem ta_Start_Rep (p : Value) (w : World) : (Instr.typeAssert (.iface 78 p) 37 57 true).run Try.prog w = .ok (.tuple #[.agg #[.nilIface, .int .i64 0, .int .i64 0], .bool false]) w := by kernel_rfl
@[go_sem] theorem ta_Start_Group (p : Value) (w : World) : (Instr.typeAssert (.iface 78 p) 37 74 true).run Try.prog w = .ok (.tuple #[.agg #[.int .i64 0, .nilIface], .bool false]) w := by kernel_rfl
@[go_sem] theorem ta_Start_Back (p : Value) (w : World) : (Instr.typeAssert (.iface 78 p) 37 76 true).run Try.prog w = .ok (.tuple #[.agg #[.int .i64 0], .bool false]) w := by kernel_rfl
@[go_sem] theorem ta_Start_Start (p : Value) (w : World) : (Instr.typeAssert (.iface 78 p) 37 78 true).run Try.prog w = .ok (.tuple #[p, .bool true]) w := by kernel_rfl
@[go_sem] theorem ta_Start_End (p : Value) (w : World) : (Instr.typeAssert (.iface 78 p) 37 79 true).run Try.prog w = .ok (.tuple #[.agg #[], .bool false]) w := by kernel_rfl
@[go_sem] theorem ta_End_Empty (p : Value) (w : World) : (Instr.typeAssert (.iface 79 p) 37 80 true).run Try.prog w = .ok (.tuple #[.agg #[], .bool false]) w := by kernel_rfl
@[go_sem] theorem ta_End_One (p : Value) (w : World) : (Instr.typeAssert (.iface 79 p) 37 55 true).run Try.prog w = .ok (.tuple #[.agg #[.int .u64 0, .int .u64 0, .int .u64 0, .int .u64 0], .bool false]) w := by kernel_rfl
@[go_sem] theorem ta_End_Cat (p : Value) (w : World) : (Instr.typeAssert (.iface 79 p) 37 71 true).run Try.prog w = .ok (.tuple #[.agg #[.slice none 0 0], .bool false]) w := by kernel_rfl
@[go_sem] theorem ta_End_Alt (p : Value) (w : World) : (Instr.typeAssert (.iface 79 p) 37 72 true).run Try.prog w = .ok (.tuple #[.agg #[.slice none 0 0], .bool false]) w := by kernel_rfl
@[go_sem] theorem ta_End_Rep (p : Value) (w : World) : (Instr.typeAssert (.iface 79 p) 37 57 true).run Try.prog w = .ok (.tuple #[.agg #[.nilIface, .int .i64 0, .int .i64 0], .bool false]) w := by kernel_rfl
@[go_sem] theorem ta_End_Group (p : Value) (w : World) : (Instr.typeAssert (.iface 79 p) 37 74 true).run Try.prog w = .ok (.tuple #[.agg #[.int .i64 0, .nilIface], .bool false]) w := by kernel_rfl
@[go_sem] theorem ta_End_Back (p : Value) (w : World) : (Instr.typeAssert (.iface 79 p) 37 76 true).run Try.prog w = .ok (.tuple #[.agg #[.int .i64 0], .bool false]) w := by kernel_rfl
@[go_sem] theorem ta_End_Start (p : Value) (w : World) : (Instr.typeAssert (.iface 79 p) 37 78 true).run Try.prog w = .ok (.tuple #[.agg #[], .bool false]) w := by kernel_rfl
@[go_sem] theorem ta_End_End (p : Value) (w : World) : (Instr.typeAssert (.iface 79 p) 37 79 true).run Try.prog w = .ok (.tuple #[p, .bool true]) w := by kernel_rfl
@[go_sem] theorem ta_nil_Empty (w : World) : (Instr.typeAssert .nilIface 37 80 true).run Try.prog w = .ok (.tuple #[.agg #[], .bool false]) w := by kernel_rfl
@[go_sem] theorem ta_nil_One (w : World) : (Instr.typeAssert .nilIface 37 55 true).run Try.prog w = .ok (.tuple #[.agg #[.int .u64 0, .int .u64 0, .int .u64 0, .int .u64 0], .bool false]) w := by kernel_rfl
@[go_sem] theorem ta_nil_Cat (w : World) : (Instr.typeAssert .nilIface 37 71 true).run Try.prog w = .ok (.tuple #[.agg #[.slice none 0 0], .bool false]) w := by kernel_rfl
@[go_sem] theorem ta_nil_Alt (w : World) : (Instr.typeAssert .nilIface 37 72 true).run Try.prog w = .ok (.tuple #[.agg #[.slice none 0 0], .bool false]) w := by kernel_rfl
@[go_sem] theorem ta_nil_Rep (w : World) : (Instr.typeAssert .nilIface 37 57 true).run Try.prog w = .ok (.tuple #[.agg #[.nilIface, .int .i64 0, .int .i64 0], .bool false]) w := by kernel_rfl
@[go_sem] theorem ta_nil_Group (w : World) : (Instr.typeAssert .nilIface 37 74 true).run Try.prog w = .ok (.tuple #[.agg #[.int .i64 0, .nilIface], .bool false]) w := by kernel_rfl
@[go_sem] theorem ta_nil_Back (w : World) : (Instr.typeAssert .nilIface 37 76 true).run Try.prog w = .ok (.tuple #[.agg #[.int .i64 0], .bool false]) w := by kernel_rfl
@[go_sem] theorem ta_nil_Start (w : World) : (Instr.typeAssert .nilIface 37 78 true).run Try.prog w = .ok (.tuple #[.agg #[], .bool false]) w := by kernel_rfl
@[go_sem] theorem ta_nil_End (w : World) : (Instr.typeAssert .nilIface 37 79 true).run Try.prog w = .ok (.tuple #[.agg #[], .bool false]) w := by kernel_rfl
end Go.Proofs.Ytjjhkagpoicimaa
