/- strings.Index and strings.HasPrefix by the library's contracts, laid by hand. -/
import Derived.Test.YtacpoandhocmhaaGreatDoorOctW
import Derived.Shelf.Strings.Search3
import Derived.Shelf.Strings.Prefix
import Derived.Lib.IndexMore
import Derived.Test.YtacpoandhocmhaaGreatDoorMaB
import Derived.Laws.BytesArg
namespace Go.Proofs.YtacpoandhocmhaaGreatDoor
open Go.RowKit Go.Shelf

/-- Two bytes, and one, as a string. -/
theorem pconv2 (W : World) (x y : Int) : (convert 43 9 (.slice (some ⟨W.heap.size, 0, none⟩) 2 2)).run Tryz.prog (W.alloc (.cells #[.int .u8 x, .int .u8 y] 5)) = .ok (.string (strOfNums [x, y])) (W.alloc (.cells #[.int .u8 x, .int .u8 y] 5)) :=
  run_convert_bytes_arg _ 43 5 Tryz.underlying43 Tryz.underlying5 _ 0 2 2 [x, y] rfl (fun i hi => by
    rw [(Blk.new W _ _ _ rfl).cell]
    match i, hi with
    | 0, _ => rfl
    | 1, _ => rfl) _ Tryz.underlying9
theorem pconv2d (W : World) (x y : Int) : (convert 43 9 (.slice (some ⟨W.heap.size, 0, none⟩) 2 2)).run Tryz.prog (W.alloc (.cells #[.int .u8 x, .int .u8 y] 5)).drew = .ok (.string (strOfNums [x, y])) (W.alloc (.cells #[.int .u8 x, .int .u8 y] 5)).drew := pconv2 W.drew x y
theorem pconv1 (W : World) (x : Int) : (convert 43 9 (.slice (some ⟨W.heap.size, 0, none⟩) 1 1)).run Tryz.prog (W.alloc (.cells #[.int .u8 x] 5)) = .ok (.string (strOfNums [x])) (W.alloc (.cells #[.int .u8 x] 5)) :=
  run_convert_bytes_arg _ 43 5 Tryz.underlying43 Tryz.underlying5 _ 0 1 1 [x] rfl (fun i hi => by
    rw [(Blk.new W _ _ _ rfl).cell]
    match i, hi with
    | 0, _ => rfl) _ Tryz.underlying9
theorem pconv1d (W : World) (x : Int) : (convert 43 9 (.slice (some ⟨W.heap.size, 0, none⟩) 1 1)).run Tryz.prog (W.alloc (.cells #[.int .u8 x] 5)).drew = .ok (.string (strOfNums [x])) (W.alloc (.cells #[.int .u8 x] 5)).drew := pconv1 W.drew x
theorem nums_two (x y : Nat) : (strOfNums [(x : Int), (y : Int)]).data.toList = [UInt8.ofNat x, UInt8.ofNat y] := rfl
theorem nums_one (x : Nat) : (strOfNums [(x : Int)]).data.toList = [UInt8.ofNat x] := rfl
theorem ext_list (s : ByteArray) (k : Nat) : (s.extract k s.size).data.toList = s.data.toList.drop k := by
  rw [ByteArray.data_extract, Array.toList_extract, List.extract_eq_take_drop]
  rw [List.take_of_length_le]
  simp
def iren : Go.Shelf.Ren := ⟨fun | 143 => 193 | 217 => 195 | 219 => 194 | 224 => 197 | 225 => 196 | 266 => 199 | 267 => 198 | 314 => 200 | n => n, fun | 3 => 3 | 4 => 4 | 5 => 5 | 9 => 9 | 46 => 215 | 51 => 228 | 146 => 264 | n => n, fun | 1 => 4 | n => n⟩
theorem ilays : Go.Proofs.Lays.n143 Tryz.prog iren := {
  mixed := by kernel_rfl
  f143 := Tryz.func193.trans (congrArg some (by kernel_rfl))
  f217 := Tryz.func195.trans (congrArg some (by kernel_rfl))
  f219 := Tryz.func194.trans (congrArg some (by kernel_rfl))
  f224 := Tryz.func197.trans (congrArg some (by kernel_rfl))
  f225 := Tryz.func196.trans (congrArg some (by kernel_rfl))
  f266 := Tryz.func199.trans (congrArg some (by kernel_rfl))
  f267 := Tryz.func198.trans (congrArg some (by kernel_rfl))
  f314 := Tryz.func200.trans (congrArg some (by kernel_rfl))
  t3 := Tryz.underlying3
  a3 := Tryz.isAgg3
  z3 := Tryz.sizeOf3
  v3 := Tryz.zeroValue3
  t4 := Tryz.underlying4
  a4 := Tryz.isAgg4
  z4 := Tryz.sizeOf4
  v4 := Tryz.zeroValue4
  t5 := Tryz.underlying5
  a5 := Tryz.isAgg5
  z5 := Tryz.sizeOf5
  v5 := Tryz.zeroValue5
  t9 := Tryz.underlying9
  a9 := Tryz.isAgg9
  z9 := Tryz.sizeOf9
  v9 := Tryz.zeroValue9
  t46 := Tryz.underlying215
  a46 := Tryz.isAgg215
  z46 := Tryz.sizeOf215
  v46 := Tryz.zeroValue215
  t51 := Tryz.underlying228
  a51 := Tryz.isAgg228
  z51 := Tryz.sizeOf228
  v51 := Tryz.zeroValue228
  t146 := Tryz.underlying264
  a146 := Tryz.isAgg264
  z146 := Tryz.sizeOf264
  v146 := Tryz.zeroValue264
  g1 := by kernel_rfl }
theorem index_any (s t : ByteArray) (m : Int) (w : World) (hs : s.size < 4294967281) (hm : w.cell? ⟨4, 0, none⟩ = some (.int .i64 m)) :
    Calls Tryz.prog 193 #[.string s, .string t] w fun e w' => e = .returned (.int .i64 (Lib.index s.data.toList t.data.toList)) ∧ w = w' :=
  (Any.strings_Index ilays s t m w hs hm).mono fun _ _ ⟨h1, h2⟩ => ⟨h1, h2.symm⟩
def pren : Go.Shelf.Ren := ⟨fun | 99 => 132 | 206 => 152 | n => n, fun | 3 => 3 | 4 => 4 | 9 => 9 | n => n, fun n => n⟩
theorem play0 : Go.Proofs.Lays.n99 Tryz.prog pren := {
  mixed := by kernel_rfl
  f99 := Tryz.func132.trans (congrArg some (by kernel_rfl))
  f206 := Tryz.func152.trans (congrArg some (by kernel_rfl))
  t3 := Tryz.underlying3
  a3 := Tryz.isAgg3
  z3 := Tryz.sizeOf3
  v3 := Tryz.zeroValue3
  t4 := Tryz.underlying4
  a4 := Tryz.isAgg4
  z4 := Tryz.sizeOf4
  v4 := Tryz.zeroValue4
  t9 := Tryz.underlying9
  a9 := Tryz.isAgg9
  z9 := Tryz.sizeOf9
  v9 := Tryz.zeroValue9 }
theorem prefix_any (s t : ByteArray) (w : World) :
    Calls Tryz.prog 132 #[.string s, .string t] w fun e w' => e = .returned (.bool (Lib.hasPrefix s.data.toList t.data.toList)) ∧ w = w' :=
  (Any.strings_HasPrefix play0 s t w).mono fun _ _ ⟨h1, h2⟩ => ⟨h1, h2.symm⟩
end Go.Proofs.YtacpoandhocmhaaGreatDoor
