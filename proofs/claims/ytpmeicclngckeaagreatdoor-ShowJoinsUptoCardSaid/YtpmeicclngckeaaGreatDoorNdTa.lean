/- Which type a node is of: each assertion's answer. -/
import Derived.Test.YtpmeicclngckeaaGreatDoorNdAo
namespace Go.Proofs.YtpmeicclngckeaaGreatDoor
open Go.RowKit

@[go_sem] theorem ta_Empty_Empty (p : Value) (w : World) : (Instr.typeAssert (.iface 103 p) 31 103 true).run Tryz.prog w = .ok (.tuple #[p, .bool true]) w := by kernel_rfl
@[go_sem] theorem ta_Empty_One (p : Value) (w : World) : (Instr.typeAssert (.iface 103 p) 31 80 true).run Tryz.prog w = .ok (.tuple #[.agg #[.int .u64 0, .int .u64 0, .int .u64 0, .int .u64 0], .bool false]) w := by kernel_rfl
@[go_sem] theorem ta_Empty_Cat (p : Value) (w : World) : (Instr.typeAssert (.iface 103 p) 31 92 true).run Tryz.prog w = .ok (.tuple #[.agg #[.slice none 0 0], .bool false]) w := by kernel_rfl
@[go_sem] theorem ta_Empty_Alt (p : Value) (w : World) : (Instr.typeAssert (.iface 103 p) 31 93 true).run Tryz.prog w = .ok (.tuple #[.agg #[.slice none 0 0], .bool false]) w := by kernel_rfl
@[go_sem] theorem ta_Empty_Rep (p : Value) (w : World) : (Instr.typeAssert (.iface 103 p) 31 95 true).run Tryz.prog w = .ok (.tuple #[.agg #[.nilIface, .int .i64 0, .int .i64 0], .bool false]) w := by kernel_rfl
@[go_sem] theorem ta_Empty_Group (p : Value) (w : World) : (Instr.typeAssert (.iface 103 p) 31 97 true).run Tryz.prog w = .ok (.tuple #[.agg #[.int .i64 0, .nilIface], .bool false]) w := by kernel_rfl
@[go_sem] theorem ta_Empty_Back (p : Value) (w : World) : (Instr.typeAssert (.iface 103 p) 31 99 true).run Tryz.prog w = .ok (.tuple #[.agg #[.int .i64 0], .bool false]) w := by kernel_rfl
@[go_sem] theorem ta_Empty_Start (p : Value) (w : World) : (Instr.typeAssert (.iface 103 p) 31 101 true).run Tryz.prog w = .ok (.tuple #[.agg #[], .bool false]) w := by kernel_rfl
@[go_sem] theorem ta_Empty_End (p : Value) (w : World) : (Instr.typeAssert (.iface 103 p) 31 102 true).run Tryz.prog w = .ok (.tuple #[.agg #[], .bool false]) w := by kernel_rfl
@[go_sem] theorem ta_One_Empty (p : Value) (w : World) : (Instr.typeAssert (.iface 80 p) 31 103 true).run Tryz.prog w = .ok (.tuple #[.agg #[], .bool false]) w := by kernel_rfl
@[go_sem] theorem ta_One_One (p : Value) (w : World) : (Instr.typeAssert (.iface 80 p) 31 80 true).run Tryz.prog w = .ok (.tuple #[p, .bool true]) w := by kernel_rfl
@[go_sem] theorem ta_One_Cat (p : Value) (w : World) : (Instr.typeAssert (.iface 80 p) 31 92 true).run Tryz.prog w = .ok (.tuple #[.agg #[.slice none 0 0], .bool false]) w := by kernel_rfl
@[go_sem] theorem ta_One_Alt (p : Value) (w : World) : (Instr.typeAssert (.iface 80 p) 31 93 true).run Tryz.prog w = .ok (.tuple #[.agg #[.slice none 0 0], .bool false]) w := by kernel_rfl
@[go_sem] theorem ta_One_Rep (p : Value) (w : World) : (Instr.typeAssert (.iface 80 p) 31 95 true).run Tryz.prog w = .ok (.tuple #[.agg #[.nilIface, .int .i64 0, .int .i64 0], .bool false]) w := by kernel_rfl
@[go_sem] theorem ta_One_Group (p : Value) (w : World) : (Instr.typeAssert (.iface 80 p) 31 97 true).run Tryz.prog w = .ok (.tuple #[.agg #[.int .i64 0, .nilIface], .bool false]) w := by kernel_rfl
@[go_sem] theorem ta_One_Back (p : Value) (w : World) : (Instr.typeAssert (.iface 80 p) 31 99 true).run Tryz.prog w = .ok (.tuple #[.agg #[.int .i64 0], .bool false]) w := by kernel_rfl
@[go_sem] theorem ta_One_Start (p : Value) (w : World) : (Instr.typeAssert (.iface 80 p) 31 101 true).run Tryz.prog w = .ok (.tuple #[.agg #[], .bool false]) w := by kernel_rfl
@[go_sem] theorem ta_One_End (p : Value) (w : World) : (Instr.typeAssert (.iface 80 p) 31 102 true).run Tryz.prog w = .ok (.tuple #[.agg #[], .bool false]) w := by kernel_rfl
@[go_sem] theorem ta_Cat_Empty (p : Value) (w : World) : (Instr.typeAssert (.iface 92 p) 31 103 true).run Tryz.prog w = .ok (.tuple #[.agg #[], .bool false]) w := by kernel_rfl
@[go_sem] theorem ta_Cat_One (p : Value) (w : World) : (Instr.typeAssert (.iface 92 p) 31 80 true).run Tryz.prog w = .ok (.tuple #[.agg #[.int .u64 0, .int .u64 0, .int .u64 0, .int .u64 0], .bool false]) w := by kernel_rfl
@[go_sem] theorem ta_Cat_Cat (p : Value) (w : World) : (Instr.typeAssert (.iface 92 p) 31 92 true).run Tryz.prog w = .ok (.tuple #[p, .bool true]) w := by kernel_rfl
@[go_sem] theorem ta_Cat_Alt (p : Value) (w : World) : (Instr.typeAssert (.iface 92 p) 31 93 true).run Tryz.prog w = .ok (.tuple #[.agg #[.slice none 0 0], .bool false]) w := by kernel_rfl
@[go_sem] theorem ta_Cat_Rep (p : Value) (w : World) : (Instr.typeAssert (.iface 92 p) 31 95 true).run Tryz.prog w = .ok (.tuple #[.agg #[.nilIface, .int .i64 0, .int .i64 0], .bool false]) w := by kernel_rfl
@[go_sem] theorem ta_Cat_Group (p : Value) (w : World) : (Instr.typeAssert (.iface 92 p) 31 97 true).run Tryz.prog w = .ok (.tuple #[.agg #[.int .i64 0, .nilIface], .bool false]) w := by kernel_rfl
@[go_sem] theorem ta_Cat_Back (p : Value) (w : World) : (Instr.typeAssert (.iface 92 p) 31 99 true).run Tryz.prog w = .ok (.tuple #[.agg #[.int .i64 0], .bool false]) w := by kernel_rfl
@[go_sem] theorem ta_Cat_Start (p : Value) (w : World) : (Instr.typeAssert (.iface 92 p) 31 101 true).run Tryz.prog w = .ok (.tuple #[.agg #[], .bool false]) w := by kernel_rfl
@[go_sem] theorem ta_Cat_End (p : Value) (w : World) : (Instr.typeAssert (.iface 92 p) 31 102 true).run Tryz.prog w = .ok (.tuple #[.agg #[], .bool false]) w := by kernel_rfl
@[go_sem] theorem ta_Alt_Empty (p : Value) (w : World) : (Instr.typeAssert (.iface 93 p) 31 103 true).run Tryz.prog w = .ok (.tuple #[.agg #[], .bool false]) w := by kernel_rfl
@[go_sem] theorem ta_Alt_One (p : Value) (w : World) : (Instr.typeAssert (.iface 93 p) 31 80 true).run Tryz.prog w = .ok (.tuple #[.agg #[.int .u64 0, .int .u64 0, .int .u64 0, .int .u64 0], .bool false]) w := by kernel_rfl
@[go_sem] theorem ta_Alt_Cat (p : Value) (w : World) : (Instr.typeAssert (.iface 93 p) 31 92 true).run Tryz.prog w = .ok (.tuple #[.agg #[.slice none 0 0], .bool false]) w := by kernel_rfl
@[go_sem] theorem ta_Alt_Alt (p : Value) (w : World) : (Instr.typeAssert (.iface 93 p) 31 93 true).run Tryz.prog w = .ok (.tuple #[p, .bool true]) w := by kernel_rfl
@[go_sem] theorem ta_Alt_Rep (p : Value) (w : World) : (Instr.typeAssert (.iface 93 p) 31 95 true).run Tryz.prog w = .ok (.tuple #[.agg #[.nilIface, .int .i64 0, .int .i64 0], .bool false]) w := by kernel_rfl
@[go_sem] theorem ta_Alt_Group (p : Value) (w : World) : (Instr.typeAssert (.iface 93 p) 31 97 true).run Tryz.prog w = .ok (.tuple #[.agg #[.int .i64 0, .nilIface], .bool false]) w := by kernel_rfl
@[go_sem] theorem ta_Alt_Back (p : Value) (w : World) : (Instr.typeAssert (.iface 93 p) 31 99 true).run Tryz.prog w = .ok (.tuple #[.agg #[.int .i64 0], .bool false]) w := by kernel_rfl
@[go_sem] theorem ta_Alt_Start (p : Value) (w : World) : (Instr.typeAssert (.iface 93 p) 31 101 true).run Tryz.prog w = .ok (.tuple #[.agg #[], .bool false]) w := by kernel_rfl
@[go_sem] theorem ta_Alt_End (p : Value) (w : World) : (Instr.typeAssert (.iface 93 p) 31 102 true).run Tryz.prog w = .ok (.tuple #[.agg #[], .bool false]) w := by kernel_rfl
@[go_sem] theorem ta_Rep_Empty (p : Value) (w : World) : (Instr.typeAssert (.iface 95 p) 31 103 true).run Tryz.prog w = .ok (.tuple #[.agg #[], .bool false]) w := by kernel_rfl
@[go_sem] theorem ta_Rep_One (p : Value) (w : World) : (Instr.typeAssert (.iface 95 p) 31 80 true).run Tryz.prog w = .ok (.tuple #[.agg #[.int .u64 0, .int .u64 0, .int .u64 0, .int .u64 0], .bool false]) w := by kernel_rfl
@[go_sem] theorem ta_Rep_Cat (p : Value) (w : World) : (Instr.typeAssert (.iface 95 p) 31 92 true).run Tryz.prog w = .ok (.tuple #[.agg #[.slice none 0 0], .bool false]) w := by kernel_rfl
@[go_sem] theorem ta_Rep_Alt (p : Value) (w : World) : (Instr.typeAssert (.iface 95 p) 31 93 true).run Tryz.prog w = .ok (.tuple #[.agg #[.slice none 0 0], .bool false]) w := by kernel_rfl
@[go_sem] theorem ta_Rep_Rep (p : Value) (w : World) : (Instr.typeAssert (.iface 95 p) 31 95 true).run Tryz.prog w = .ok (.tuple #[p, .bool true]) w := by kernel_rfl
@[go_sem] theorem ta_Rep_Group (p : Value) (w : World) : (Instr.typeAssert (.iface 95 p) 31 97 true).run Tryz.prog w = .ok (.tuple #[.agg #[.int .i64 0, .nilIface], .bool false]) w := by kernel_rfl
@[go_sem] theorem ta_Rep_Back (p : Value) (w : World) : (Instr.typeAssert (.iface 95 p) 31 99 true).run Tryz.prog w = .ok (.tuple #[.agg #[.int .i64 0], .bool false]) w := by kernel_rfl
@[go_sem] theorem ta_Rep_Start (p : Value) (w : World) : (Instr.typeAssert (.iface 95 p) 31 101 true).run Tryz.prog w = .ok (.tuple #[.agg #[], .bool false]) w := by kernel_rfl
@[go_sem] theorem ta_Rep_End (p : Value) (w : World) : (Instr.typeAssert (.iface 95 p) 31 102 true).run Tryz.prog w = .ok (.tuple #[.agg #[], .bool false]) w := by kernel_rfl
@[go_sem] theorem ta_Group_Empty (p : Value) (w : World) : (Instr.typeAssert (.iface 97 p) 31 103 true).run Tryz.prog w = .ok (.tuple #[.agg #[], .bool false]) w := by kernel_rfl
@[go_sem] theorem ta_Group_One (p : Value) (w : World) : (Instr.typeAssert (.iface 97 p) 31 80 true).run Tryz.prog w = .ok (.tuple #[.agg #[.int .u64 0, .int .u64 0, .int .u64 0, .int .u64 0], .bool false]) w := by kernel_rfl
@[go_sem] theorem ta_Group_Cat (p : Value) (w : World) : (Instr.typeAssert (.iface 97 p) 31 92 true).run Tryz.prog w = .ok (.tuple #[.agg #[.slice none 0 0], .bool false]) w := by kernel_rfl
@[go_sem] theorem ta_Group_Alt (p : Value) (w : World) : (Instr.typeAssert (.iface 97 p) 31 93 true).run Tryz.prog w = .ok (.tuple #[.agg #[.slice none 0 0], .bool false]) w := by kernel_rfl
@[go_sem] theorem ta_Group_Rep (p : Value) (w : World) : (Instr.typeAssert (.iface 97 p) 31 95 true).run Tryz.prog w = .ok (.tuple #[.agg #[.nilIface, .int .i64 0, .int .i64 0], .bool false]) w := by kernel_rfl
@[go_sem] theorem ta_Group_Group (p : Value) (w : World) : (Instr.typeAssert (.iface 97 p) 31 97 true).run Tryz.prog w = .ok (.tuple #[p, .bool true]) w := by kernel_rfl
@[go_sem] theorem ta_Group_Back (p : Value) (w : World) : (Instr.typeAssert (.iface 97 p) 31 99 true).run Tryz.prog w = .ok (.tuple #[.agg #[.int .i64 0], .bool false]) w := by kernel_rfl
@[go_sem] theorem ta_Group_Start (p : Value) (w : World) : (Instr.typeAssert (.iface 97 p) 31 101 true).run Tryz.prog w = .ok (.tuple #[.agg #[], .bool false]) w := by kernel_rfl
@[go_sem] theorem ta_Group_End (p : Value) (w : World) : (Instr.typeAssert (.iface 97 p) 31 102 true).run Tryz.prog w = .ok (.tuple #[.agg #[], .bool false]) w := by kernel_rfl
@[go_sem] theorem ta_Back_Empty (p : Value) (w : World) : (Instr.typeAssert (.iface 99 p) 31 103 true).run Tryz.prog w = .ok (.tuple #[.agg #[], .bool false]) w := by kernel_rfl
@[go_sem] theorem ta_Back_One (p : Value) (w : World) : (Instr.typeAssert (.iface 99 p) 31 80 true).run Tryz.prog w = .ok (.tuple #[.agg #[.int .u64 0, .int .u64 0, .int .u64 0, .int .u64 0], .bool false]) w := by kernel_rfl
@[go_sem] theorem ta_Back_Cat (p : Value) (w : World) : (Instr.typeAssert (.iface 99 p) 31 92 true).run Tryz.prog w = .ok (.tuple #[.agg #[.slice none 0 0], .bool false]) w := by kernel_rfl
@[go_sem] theorem ta_Back_Alt (p : Value) (w : World) : (Instr.typeAssert (.iface 99 p) 31 93 true).run Tryz.prog w = .ok (.tuple #[.agg #[.slice none 0 0], .bool false]) w := by kernel_rfl
@[go_sem] theorem ta_Back_Rep (p : Value) (w : World) : (Instr.typeAssert (.iface 99 p) 31 95 true).run Tryz.prog w = .ok (.tuple #[.agg #[.nilIface, .int .i64 0, .int .i64 0], .bool false]) w := by kernel_rfl
@[go_sem] theorem ta_Back_Group (p : Value) (w : World) : (Instr.typeAssert (.iface 99 p) 31 97 true).run Tryz.prog w = .ok (.tuple #[.agg #[.int .i64 0, .nilIface], .bool false]) w := by kernel_rfl
@[go_sem] theorem ta_Back_Back (p : Value) (w : World) : (Instr.typeAssert (.iface 99 p) 31 99 true).run Tryz.prog w = .ok (.tuple #[p, .bool true]) w := by kernel_rfl
@[go_sem] theorem ta_Back_Start (p : Value) (w : World) : (Instr.typeAssert (.iface 99 p) 31 101 true).run Tryz.prog w = .ok (.tuple #[.agg #[], .bool false]) w := by kernel_rfl
@[go_sem] theorem ta_Back_End (p : Value) (w : World) : (Instr.typeAssert (.iface 99 p) 31 102 true).run Tryz.prog w = .ok (.tuple #[.agg #[], .bool false]) w := by kernel_rfl
@[go_sem] theorem ta_Start_Empty (p : Value) (w : World) : (Instr.typeAssert (.iface 101 p) 31 103 true).run Tryz.prog w = .ok (.tuple #[.agg #[], .bool false]) w := by kernel_rfl
@[go_sem] theorem ta_Start_One (p : Value) (w : World) : (Instr.typeAssert (.iface 101 p) 31 80 true).run Tryz.prog w = .ok (.tuple #[.agg #[.int .u64 0, .int .u64 0, .int .u64 0, .int .u64 0], .bool false]) w := by kernel_rfl
@[go_sem] theorem ta_Start_Cat (p : Value) (w : World) : (Instr.typeAssert (.iface 101 p) 31 92 true).run Tryz.prog w = .ok (.tuple #[.agg #[.slice none 0 0], .bool false]) w := by kernel_rfl
@[go_sem] theorem ta_Start_Alt (p : Value) (w : World) : (Instr.typeAssert (.iface 101 p) 31 93 true).run Tryz.prog w = .ok (.tuple #[.agg #[.slice none 0 0], .bool false]) w := by kernel_rfl
@[go_sem] theorem ta_Start_Rep (p : Value) (w : World) : (Instr.typeAssert (.iface 101 p) 31 95 true).run Tryz.prog w = .ok (.tuple #[.agg #[.nilIface, .int .i64 0, .int .i64 0], .bool false]) w := by kernel_rfl
@[go_sem] theorem ta_Start_Group (p : Value) (w : World) : (Instr.typeAssert (.iface 101 p) 31 97 true).run Tryz.prog w = .ok (.tuple #[.agg #[.int .i64 0, .nilIface], .bool false]) w := by kernel_rfl
@[go_sem] theorem ta_Start_Back (p : Value) (w : World) : (Instr.typeAssert (.iface 101 p) 31 99 true).run Tryz.prog w = .ok (.tuple #[.agg #[.int .i64 0], .bool false]) w := by kernel_rfl
@[go_sem] theorem ta_Start_Start (p : Value) (w : World) : (Instr.typeAssert (.iface 101 p) 31 101 true).run Tryz.prog w = .ok (.tuple #[p, .bool true]) w := by kernel_rfl
@[go_sem] theorem ta_Start_End (p : Value) (w : World) : (Instr.typeAssert (.iface 101 p) 31 102 true).run Tryz.prog w = .ok (.tuple #[.agg #[], .bool false]) w := by kernel_rfl
@[go_sem] theorem ta_End_Empty (p : Value) (w : World) : (Instr.typeAssert (.iface 102 p) 31 103 true).run Tryz.prog w = .ok (.tuple #[.agg #[], .bool false]) w := by kernel_rfl
@[go_sem] theorem ta_End_One (p : Value) (w : World) : (Instr.typeAssert (.iface 102 p) 31 80 true).run Tryz.prog w = .ok (.tuple #[.agg #[.int .u64 0, .int .u64 0, .int .u64 0, .int .u64 0], .bool false]) w := by kernel_rfl
@[go_sem] theorem ta_End_Cat (p : Value) (w : World) : (Instr.typeAssert (.iface 102 p) 31 92 true).run Tryz.prog w = .ok (.tuple #[.agg #[.slice none 0 0], .bool false]) w := by kernel_rfl
@[go_sem] theorem ta_End_Alt (p : Value) (w : World) : (Instr.typeAssert (.iface 102 p) 31 93 true).run Tryz.prog w = .ok (.tuple #[.agg #[.slice none 0 0], .bool false]) w := by kernel_rfl
@[go_sem] theorem ta_End_Rep (p : Value) (w : World) : (Instr.typeAssert (.iface 102 p) 31 95 true).run Tryz.prog w = .ok (.tuple #[.agg #[.nilIface, .int .i64 0, .int .i64 0], .bool false]) w := by kernel_rfl
@[go_sem] theorem ta_End_Group (p : Value) (w : World) : (Instr.typeAssert (.iface 102 p) 31 97 true).run Tryz.prog w = .ok (.tuple #[.agg #[.int .i64 0, .nilIface], .bool false]) w := by kernel_rfl
@[go_sem] theorem ta_End_Back (p : Value) (w : World) : (Instr.typeAssert (.iface 102 p) 31 99 true).run Tryz.prog w = .ok (.tuple #[.agg #[.int .i64 0], .bool false]) w := by kernel_rfl
@[go_sem] theorem ta_End_Start (p : Value) (w : World) : (Instr.typeAssert (.iface 102 p) 31 101 true).run Tryz.prog w = .ok (.tuple #[.agg #[], .bool false]) w := by kernel_rfl
@[go_sem] theorem ta_End_End (p : Value) (w : World) : (Instr.typeAssert (.iface 102 p) 31 102 true).run Tryz.prog w = .ok (.tuple #[p, .bool true]) w := by kernel_rfl
@[go_sem] theorem ta_nil_Empty (w : World) : (Instr.typeAssert .nilIface 31 103 true).run Tryz.prog w = .ok (.tuple #[.agg #[], .bool false]) w := by kernel_rfl
@[go_sem] theorem ta_nil_One (w : World) : (Instr.typeAssert .nilIface 31 80 true).run Tryz.prog w = .ok (.tuple #[.agg #[.int .u64 0, .int .u64 0, .int .u64 0, .int .u64 0], .bool false]) w := by kernel_rfl
@[go_sem] theorem ta_nil_Cat (w : World) : (Instr.typeAssert .nilIface 31 92 true).run Tryz.prog w = .ok (.tuple #[.agg #[.slice none 0 0], .bool false]) w := by kernel_rfl
@[go_sem] theorem ta_nil_Alt (w : World) : (Instr.typeAssert .nilIface 31 93 true).run Tryz.prog w = .ok (.tuple #[.agg #[.slice none 0 0], .bool false]) w := by kernel_rfl
@[go_sem] theorem ta_nil_Rep (w : World) : (Instr.typeAssert .nilIface 31 95 true).run Tryz.prog w = .ok (.tuple #[.agg #[.nilIface, .int .i64 0, .int .i64 0], .bool false]) w := by kernel_rfl
@[go_sem] theorem ta_nil_Group (w : World) : (Instr.typeAssert .nilIface 31 97 true).run Tryz.prog w = .ok (.tuple #[.agg #[.int .i64 0, .nilIface], .bool false]) w := by kernel_rfl
@[go_sem] theorem ta_nil_Back (w : World) : (Instr.typeAssert .nilIface 31 99 true).run Tryz.prog w = .ok (.tuple #[.agg #[.int .i64 0], .bool false]) w := by kernel_rfl
@[go_sem] theorem ta_nil_Start (w : World) : (Instr.typeAssert .nilIface 31 101 true).run Tryz.prog w = .ok (.tuple #[.agg #[], .bool false]) w := by kernel_rfl
@[go_sem] theorem ta_nil_End (w : World) : (Instr.typeAssert .nilIface 31 102 true).run Tryz.prog w = .ok (.tuple #[.agg #[], .bool false]) w := by kernel_rfl
end Go.Proofs.YtpmeicclngckeaaGreatDoor
